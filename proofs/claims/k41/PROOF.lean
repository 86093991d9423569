import PyProof.Rows.All
import Wide.All
import OpenK.KLine
import OpenK.KOwn
import Wide.FinOn
import Lean
import PyProof.EqAt
import PyProof.EqKinds
import PyProof.TupleCall
import KE.KMinKey
import KE.KSortTup
import KE.KRevSl
import KE.KStateDown
import PyProof.Rows.Range3
import KE.KDictOf
import PyProof.AttrMissSeq
import KE.KRevIter
import KE.KItemsList
import KE.KPairComp
import KE.KEqDict
import KE.KDictSum
import KE.RegKIsAll
import KE.KNest
import KE.KClos
import PyProof.Draws
import PyProof.EnumMake
import PySem.Challenge.RW_depot_k41_rules_read
set_option Elab.async false
set_option linter.all false
set_option maxRecDepth 100000
set_option maxHeartbeats 4000000
namespace Law
open PySem PySem.W PyProof.Rows
def frT (n:Nat):Stmt:=PySem.Challenge.pw_depot_k41_rules_read.main.body.getD n (.Pass ⟨0,0,0,0⟩)
def frQ:Program:={ PySem.Challenge.pw_depot_k41_rules_read with main:={ PySem.Challenge.pw_depot_k41_rules_read.main with body:=[frT 1,frT 2,frT 3,frT 4,frT 5,frT 6,frT 8,frT 9,frT 10,frT 11,frT 12,frT 14,frT 15,frT 16,frT 17,frT 18,frT 19,frT 20,frT 21,frT 22] } }
theorem frB {p q:Program} {loose:List Str} {Xt:Shared→Bool} {α:Type} {Yf:Shared→α} {Ya:World→α} {N:Nat} {g0:Bool}
    (e:opening p=plainProg p.main.scope.names) (hN:Nat.ble 600 N=true) (f:∀ s,fenceModules? p s=some s)
    (h:∀ (w:World) (os:OsState),(topFrom treeTable p w N ⟨boot_heap w.params,#[],boot_drawn,boot_toks,os⟩).map (fun s=>(openSeen q loose (importedModules p.main.body) Xt g0 s,Yf s))=some (openGood q loose,Ya w)) :
    LeftO p q loose Xt Yf Ya N g0:=fun w=>by
  obtain ⟨⟨h1,gs,d,k,os⟩,e1,e'⟩:=Option.map_eq_some_iff.mp (boot_open e hN f w)
  obtain ⟨rfl,rfl,rfl,rfl⟩:h1=boot_heap w.params∧gs=#[]∧d=boot_drawn∧k=boot_toks:=by simpa using e'
  unfold openEnds
  rw [e1]
  exact h w os
abbrev frX:Shared→Bool:=fun s=>xlAt frQ [] s&&recOk (RowW.records (OpenRow.toRowW (OpenLaw.row PySem.Challenge.rw_depot_k41_rules_read))) s
end Law
local macro_rules
  | `(tactic| o_head $H)=>`(tactic| refine PySem.W.holds_open (q:=Law.frQ) (loose:=[]) (Xt:=Law.frX) (XP:=PySem.W.XL Law.frQ []) (Yf:=PySem.W.Hook.obs $H) (Ya:=PySem.W.Hook.val $H)
      (YP:=PySem.W.Hook.says $H) (N:=3506) ?hl (PySem.W.Hook.of $H) (PySem.W.Hook.keeps $H) (fun s e=>PySem.W.xl_of s (Bool.and_eq_true_iff.mp e).1) PySem.W.XL.keeps (by rfl) (by rfl) (by rfl)
      (fun s e=>PySem.W.recFacts_of (Bool.and_eq_true_iff.mp e).2) (by rfl) (by first | assumption | decide +kernel) (by decide +kernel) ⟨rfl,rfl,rfl,rfl,rfl,by decide +kernel⟩ ?hw ?hc)
open PySem PySem.W in
theorem Law.frK (h0:∀ {α:Type} (Yf:Shared→α) (Ya:World→α),LeftO (OpenLaw.row PySem.Challenge.rw_depot_k41_rules_read).prog Law.frQ [] Law.frX Yf Ya 3506)
    (h1:∀ YP d,WalkO Law.frQ [] (XL Law.frQ []) YP (OpenRow.toRowW (OpenLaw.row PySem.Challenge.rw_depot_k41_rules_read)) d [] (fun f vs=>PySem.call f vs)):OpenLaw.Holds PySem.Challenge.rw_depot_k41_rules_read:=by
  w_on;o_law;k_head
  case hl=>exact h0 _ _
  case hw=>w_witness2
  exact h1 _ _
abbrev Law.frA:List Nat:=[2,3,6,15,22,23,24,25,28,35,36,37,40,47,48,49,52,59,60,61,64,71,72,73,76,83,84,85,88,89,91,92,94,95,96,98,99,101,102,103,106,107,108,111,112,113,115,116,118,119,120,122,123,125,126,127,129,130,132,133,134,136,137,139,140,141,143,144,146,147,148,150,151,153,154,155,157,158,160,161,162,164,165,167,168,169,172,173]
theorem Law.frE:∀ P,Law.frA=(Law.frK.heap_39 P).map (·.1):=fun _=>by kernel_rfl
open PySem PySem.W in
theorem Law.frL:LeftO (OpenLaw.row PySem.Challenge.rw_depot_k41_rules_read).prog Law.frQ [] Law.frX (Hook.obs (kHook Law.frK.heap_39 Law.frA Law.frE)) (Hook.val (kHook Law.frK.heap_39 Law.frA Law.frE)) 3506 :=
  Law.frB (by kernel_rfl) (by kernel_rfl) (fun s=>by kernel_rfl) (fun w os=>by kernel_rfl)
namespace L2
open PySem PySem.Spec PyProof.Rows
structure Tr (B:Heap) (x:Addr) (C fl:Value) (h:Heap):Prop where
  ex:∃ (o:Obj) (vs:Array Value) (T:Addr) (oT:Obj) (ts:Array Value),h.get? x=some o∧o.cls=C∧o.data = .fields vs∧vs[1]?=some (.ref T)∧vs[2]?=some .none∧B.get? T=none∧T≠x∧h.get? T=some oT∧oT.data = .fields ts∧ts[3]?=some fl
structure a3Q (B:Heap) (l:List Env) (x:Addr) (C fl:Value) (h:Heap):Prop where
  stays:B.StaysIn h
  new:B.get? x=none
  alI:h.FunFrames B l
  tr:Tr B x C fl h
abbrev Fly (B:Heap) (l:List Env) (x:Addr) (C:Value) (h:Heap):Prop:=a3Q B l x C .none h
section
variable {M:Model} {A:Around} {E:Value→Shared→Prop} {s:Shared} {B:Heap} {l:List Env} {env:Env} {outer:List Env} {L x:Addr} {C fl:Value}
theorem a3Q.fld {h:Heap} (f:a3Q B l x C fl h):∃ o vs,h.get? x=some o∧o.cls=C∧o.data = .fields vs∧vs[2]?=some .none:=by
  obtain ⟨o,vs,_,_,_,h1,h2,h3,_,h5,_⟩:=f.tr.ex
  exact ⟨o,vs,h1,h2,h3,h5⟩
theorem jN {h:Heap} {a:Addr} {o:Obj} {vs:Array Value} {i:Nat} {v:Value} (e:h.get? a=some o) (d:o.data = .fields vs) :
    (h.update a (Obj.mapFields (·.setIfInBounds i v))).get? a=some (Obj.mapFields (·.setIfInBounds i v) o)∧(Obj.mapFields (·.setIfInBounds i v) o).data = .fields (vs.setIfInBounds i v)∧(Obj.mapFields (·.setIfInBounds i v) o).cls=o.cls ∧
    (∀ b,b≠a→(h.update a (Obj.mapFields (·.setIfInBounds i v))).get? b=h.get? b):=by
  have d':=Obj.data_mapFields d (·.setIfInBounds i v)
  exact ⟨Heap.get?_update_self _ e (Obj.isFreed_of_fields d'),d',Obj.cls_mapFields _ _,fun b hb=>Heap.get?_update_other _ _ (Ne.symm hb)⟩
theorem tG {h:Heap} {a b:Addr} {o u:Obj} {vs:Array Value} (e:h.get? a=some o) (d:o.data = .fields vs) (e2:h.get? b=some u) (n:∀ ws,u.data ≠ .fields ws):b≠a:=fun q=>by
  subst q
  rw [e] at e2
  cases e2
  exact n vs d
theorem z6 {Q:Unit→Shared→Prop} (f:a3Q B l x C fl s.heap) (h:∀ h',Fly B l x C h'→s.heap.UpToSlots h'→Q () { s with heap:=h' }):wpAny M A (setFlight (.ref x) none) Q E s:=by
  obtain ⟨st,nw,fu,⟨o,vs,T,oT,ts,e1,e2,e3,e4,e5,e6,e7,e8,e9,e10⟩⟩:=f
  unfold setFlight
  refine wpAny_bind (wpAny_field e1 e3 e4 ?_)
  rw [if_pos (by simp)]
  have l3:3 < ts.size:=(Array.getElem?_eq_some_iff.mp e10).1
  obtain ⟨u1,u2,u3,u4⟩:=jN (i:=3) (v:=(none:Option Addr).elim Value.none fun f=>rawInt f) e8 e9
  refine wpAny_setField e8 e9 l3 (h _ ⟨fun b u q=>?_,nw,fu.of_keeps fun b u q n=>⟨u,(u4 b (tG e8 e9 q n)).trans q,rfl⟩,⟨o,vs,T,_,_,(u4 x (Ne.symm e7)).trans e1,e2,e3,e4,e5,e6,e7,u1,u2,?_⟩⟩ fun b u q n=>⟨u.slots,(u4 b (tG e8 e9 q n)).trans q⟩)
  · exact (u4 b fun z=>by subst z;rw [e6] at q;cases q).trans (st b u q)
  · simp [l3]
theorem a5W {Q:Unit→Shared→Prop} {head:Value} {hadNext:Bool} {o:Obj} {vs:Array Value} (hfr:A.frames=some (env :: outer)) (hf:env.frame=some L) (st:B.StaysIn s.heap) (nw:B.get? x=none) (fu:s.heap.FunFrames B (env :: outer)) (e1:s.heap.get? x=some o) (e2:o.cls=C) (e3:o.data = .fields vs) (e4:1 < vs.size) (e5:vs[2]?=some .none)
    (h:∀ h',a3Q B (env :: outer) x C (rawInt L) h'→s.heap.UpToSlots h'→Q () { s with heap:=h' }) :
    wpAny M A (do let a ← frameOf env;let pl ← entryPlaceOf L hadNext;let b ← EntryCells.newEntry head a .none (rawInt L) .none pl;setField (.ref x) 1 b) Q E s:=by
  have nf:x ∉ (env :: outer).filterMap (·.frame):=fun m=>by
    obtain ⟨_,u,hu,hn⟩:=fu.mem m
    rw [e1] at hu;cases hu
    exact hn vs e3
  refine wpAny_bind (wpAny_frameOf_fun hfr fu hf fun k so=>wpAny_bind (wpAny_entryPlaceOf fun pl hpl=>?_))
  unfold EntryCells.newEntry newFields
  refine wpAny_bind (wpAny_newObj_type ?_ (hpl.sizeOk5 _ _ _ _ _))
  have k1:k.get? x=some o:=(so.2.1 x nf).trans e1
  have tne:k.objs.size≠x:=fun z=>absurd (Heap.lt_size k1) (by rw [z];exact Nat.lt_irrefl _)
  have kB:∀ b u,B.get? b=some u→k.get? b=some u:=fun b u q=>(so.2.1 b fun m=>by rw [(fu.mem m).1] at q;cases q).trans (st b u q)
  generalize hT:({ cls := .type "traceback",dict:=none,data := .fields ([head,.ref L,.none,rawInt L,.none]++(if pl.isEmpty then List.replicate 6 Value.none else pl)).toArray }:Obj)=oT
  have p1:(k.push oT).get? x=some o:=Heap.get?_push_of_some _ k1
  obtain ⟨u1,u2,u3,u4⟩:=jN (i:=1) (v := .ref k.objs.size) p1 e3
  have keep:∀ b u,b≠x→k.get? b=some u→((k.push oT).update x (Obj.mapFields (·.setIfInBounds 1 (.ref k.objs.size)))).get? b=some u:=fun b u n q=>(u4 b n).trans (Heap.get?_push_of_some _ q)
  have pT:(k.push oT).get? k.objs.size=some oT:=by
    subst hT
    exact Heap.get?_push_size k rfl
  refine wpAny_setField p1 e3 e4 (h _ ⟨fun b u q=>keep b u (fun z=>by subst z;rw [nw] at q;cases q) (kB b u q),nw,fu.of_keeps fun b u q n=>?_,⟨_,_,k.objs.size,oT,_,u1,u3.trans e2,u2,?_,?_,?_,tne,(u4 _ tne).trans pT,by rw [← hT],?_⟩⟩ fun b u q n=>?_)
  · obtain ⟨sl,z⟩:=so.2.2 b u q
    exact ⟨_,keep b _ (tG e1 e3 q n) z,rfl⟩
  · simp [e4]
  · rw [Array.getElem?_setIfInBounds_ne (by decide)];exact e5
  · cases q:B.get? k.objs.size with
    | none=>rfl
    | some u=>exact absurd (Heap.lt_size (kB _ u q)) (Nat.lt_irrefl _)
  · first | (simp;done) | (rcases hpl with rfl | ⟨_,_,_,_,_,_,_,rfl⟩ <;> simp)
  · obtain ⟨sl,z⟩:=so.2.2 b u q
    exact ⟨sl,keep b _ (tG e1 e3 q n) z⟩
theorem a95 {Q:Unit→Shared→Prop} (hfr:A.frames=some (env :: outer)) (hf:env.frame=some L) (f:Fly B (env :: outer) x C s.heap) (h:∀ h',a3Q B (env :: outer) x C (rawInt L) h'→s.heap.UpToSlots h'→Q () { s with heap:=h' }):wpAny M A (noteFrame (.ref x) env) Q E s:=by
  obtain ⟨st,nw,fu,⟨o,vs,T,oT,ts,e1,e2,e3,e4,e5,e6,e7,e8,e9,e10⟩⟩:=f
  unfold noteFrame
  simp only [hf]
  refine wpAny_bind (wpAny_field e1 e3 e4 ?_)
  rw [if_pos (by simp)]
  refine wpAny_bind (wpAny_field e8 e9 e10 ?_)
  rw [if_neg (by simp [rawInt])]
  have l3:3 < ts.size:=(Array.getElem?_eq_some_iff.mp e10).1
  obtain ⟨u1,u2,u3,u4⟩:=jN (i:=3) (v := .none) e8 e9
  refine wpAny_bind (wpAny_setField e8 e9 l3 ?_)
  refine a5W hfr hf (fun b u q=>(u4 b fun z=>by subst z;rw [e6] at q;cases q).trans (st b u q)) nw (fu.of_keeps fun b u q n=>⟨u,(u4 b (tG e8 e9 q n)).trans q,rfl⟩) ((u4 x (Ne.symm e7)).trans e1) e2 e3 (Array.getElem?_eq_some_iff.mp e4).1 e5 fun h' f' up=>h h' f' ?_
  exact fun b u q n=>up b u ((u4 b (tG e8 e9 q n)).trans q) n
theorem a3Q.tail {h:Heap} (f:a3Q B (env :: outer) x C fl h):a3Q B outer x C fl h:=by
  obtain ⟨st,nw,⟨_,_,fu⟩,tr⟩:=f
  exact ⟨st,nw,fu,tr⟩
theorem acK {Q:Unit→Shared→Prop} (hfr:A.frames=some (env :: outer)) (hf:env.frame=some L) (f:Fly B (env :: outer) x C s.heap) (h:∀ h',Fly B outer x C h'→s.heap.UpToSlots h'→Q () { s with heap:=h' }):wpAny M A (leaving env (.ref x)) Q E s:=by
  unfold leaving
  refine wpAny_bind (a95 hfr hf f fun h1 f1 up1=>z6 f1 fun h2 f2 up2=>?_)
  exact h h2 f2.tail (up1.trans up2)
theorem a7T {Q:Unit→Shared→Prop} {h0:Heap} {us:List Value} (hfr:A.frames=some (env :: outer)) (hf:env.frame=some L) (st:B.StaysIn h0) (fu:h0.FunFrames B (env :: outer)) (hm:Heap.MadeExcOf h0 s.heap x C us) (h:∀ h',Fly B outer x C h'→s.heap.UpToSlots h'→Q () { s with heap:=h' }):wpAny M A (leaving env (.ref x)) Q E s:=by
  obtain ⟨t,e1,_,_⟩:=hm.there
  unfold leaving noteFrame
  simp only [hf]
  refine wpAny_bind (wpAny_bind (wpAny_field (vs:=#[.ref t,.none,.none,.none,.bool false,.none]) (i:=1) e1 rfl rfl ?_))
  rw [if_neg (by simp)]
  have nw:B.get? x=none:=by
    cases q:B.get? x with
    | none=>rfl
    | some u=>have:=st x u q;rw [hm.new] at this;cases this
  refine a5W hfr hf (fun b u q=>hm.keeps b u (st b u q)) nw (fu.of_keeps fun b u q _=>⟨u,hm.keeps b u q,rfl⟩) e1 rfl rfl (by simp) rfl fun h1 f1 up1=>z6 f1 fun h2 f2 up2=>?_
  exact h h2 f2.tail (up1.trans up2)
end
def a1P (A:Around) (h:Heap):Prop:=A.handled=none∨∃ x o vs,A.handled=some (.ref x)∧h.get? x=some o∧o.data = .fields vs∧vs[2]?=some .none
theorem a1Q:entryFor table "proto.unchain" = some Builtin.«proto.unchain» := entryFor_of_fast (by kernel_rfl)
section
variable {prog:Program} {w:World} {A:Around} {E:Value→Shared→Prop} {s:Shared}
theorem aaY {α:Type} {Q:α→Shared→Prop} {a:Addr} {oa:Obj} {ws:Array Value} (hq:a1P A s.heap) (ea:s.heap.get? a=some oa) (da:oa.data = .fields ws) (la:2 < ws.size) (na:∀ x,A.handled=some (.ref x)→x≠a)
    (h:∀ h',(∀ b,b≠a→h'.get? b=s.heap.get? b)→(∃ o,h'.get? a=some o∧o.cls=oa.cls)→E (.ref a) { s with heap:=h' }):wpAny (model prog w) A (raiseNew (.ref a):Sem α) Q E s:=by
  unfold raiseNew
  refine wpAny_bind (wpAny_handled ?_)
  rcases hq with hn | ⟨x,o,vs,hx,ex,dx,vx⟩
  · rw [hn]
    exact wpAny_bind (wpAny_pure (wpAny_throw (h s.heap (fun _ _=>rfl) ⟨oa,ea,rfl⟩)))
  · rw [hx]
    have ne:=na x hx
    show wpAny (model prog w) _ (if ((Value.ref x) != (Value.ref a))=true then _ else _) _ _ _
    rw [if_pos (by simpa using ne)]
    refine wpAny_bind (wpAny_holding (wpAny_runValue (codeAny_builtin a1Q ?_)))
    show wpAny (model prog w) _ (field (.ref x) 2 >>= _) _ _ _
    refine wpAny_bind (wpAny_field ex dx vx ?_)
    show wpAny (model prog w) _ (if ((Value.none:Value) == Value.none)=true then _ else _) _ _ _
    rw [if_pos (by decide)]
    refine wpAny_bind (wpAny_pure (wpAny_pure ?_))
    obtain ⟨u1,u2,u3,u4⟩:=jN (i:=2) (v := .ref x) ea da
    show wpAny (model prog w) _ (setField (.ref a) 2 (.ref x) >>= _) _ _ _
    exact wpAny_bind (wpAny_setField ea da la (wpAny_throw (h _ u4 ⟨_,u1,u3⟩)))
theorem lJ {α:Type} {Q:α→Shared→Prop} (hq:a1P A s.heap) (h:∀ a h',(∀ b o,s.heap.get? b=some o→h'.get? b=some o)→(∃ o,h'.get? a=some o∧o.cls = .type "StopIteration")→E (.ref a) { s with heap:=h' }) :
    wpAny (model prog w) A (newExc (.type "StopIteration") [] >>= fun e=>(raiseNew e:Sem α)) Q E s:=by
  refine wpAny_bind ?_
  unfold newExc newTuple
  refine wpAny_bind (wpAny_newObj_type (wpAny_bind (wpAny_of_eq (a:=Value.none) (by simp only [firstArgMember];rfl) (wpAny_newObj_type ?_ (by size_fits)))) (by size_fits))
  generalize hh:s.heap.push { cls := .type "tuple",data := .seq ([]:List Value).toArray }=h1
  generalize ho:({ cls := .type "StopIteration",data := .fields (#[.ref s.heap.objs.size,.none,.none,.none,.bool false,.none]++ownMembersOf (.type "StopIteration") []) }:Obj)=o1
  have k1:∀ b o,s.heap.get? b=some o→(h1.push o1).get? b=some o:=fun b o e=>Heap.get?_push_of_some _ (hh ▸ Heap.get?_push_of_some _ e)
  have ea:(h1.push o1).get? h1.objs.size=some o1:=by
    subst ho
    exact Heap.get?_push_size h1 rfl
  have old:∀ b o,s.heap.get? b=some o→b≠h1.objs.size:=fun b o e z=>by
    have l1:b < h1.objs.size:=by
      rw [← hh,Heap.size_push]
      exact Nat.lt_succ_of_lt (Heap.lt_size e)
    exact absurd l1 (by rw [z];exact Nat.lt_irrefl _)
  refine aaY (ws:=#[.ref s.heap.objs.size,.none,.none,.none,.bool false,.none]++ownMembersOf (.type "StopIteration") []) ?_ ea (by rw [← ho]) (by simp [ownMembersOf]) (fun x hx=>?_) fun h' k c=>h h1.objs.size h' (fun b o e=>(k b (old b o e)).trans (k1 b o e)) ?_
  · rcases hq with z | ⟨x,o,vs,a1,a2,a3⟩
    · exact .inl z
    · exact .inr ⟨x,o,vs,a1,k1 _ _ a2,a3⟩
  · rcases hq with z | ⟨x',o,vs,a1,a2,a3⟩
    · rw [z] at hx;cases hx
    · rw [a1] at hx;cases hx
      exact old _ _ a2
  · obtain ⟨o,e,c⟩:=c
    exact ⟨o,e,by rw [c,← ho]⟩
theorem o9 {T id:String} {b:Builtin} {it:Addr} {Q:Option Value→Shared→Prop} (slot:Slot T (Str.ofString "__next__") id) (entry:entryFor table id=some b) (hT:s.TypeIs (.ref it) T) (args:argsOk id ⟨[.ref it],[]⟩)
    (hb:wpAny (model prog w) A.in1 (b ⟨[.ref it],[]⟩) (fun _ _=>False) (fun e s'=>∃ a o,e = .ref a∧s'.heap.get? a=some o∧o.cls = .type "StopIteration" ∧ Q none s') s):wpAny (model prog w) A (pyNext (.ref it)) Q E s:=by
  unfold pyNext
  refine wpAny_bind (wpAny_attempt (wpAny_callSpecial?_slot hT slot (wpAny_call_entry slot hT entry (wpAny_mono hb (fun _ _ z=>z.elim) fun e s' z=>?_) args)))
  obtain ⟨a,o,rfl,e1,e2,q⟩:=z
  exact wpAny_bind (wpAny_isInstance (T := "StopIteration") (b:=true) ⟨o,e1,e2⟩ isSubtype_stop (wpAny_pure q))
theorem z7 {it:Addr} {o:Obj} {vs:Array Value} {i:Nat} {v:Value} (hq:a1P A s.heap) (e:s.heap.get? it=some o) (d:o.data = .fields vs) (l:vs[2]?≠some .none):a1P A (s.heap.update it (Obj.mapFields (·.setIfInBounds i v))):=by
  rcases hq with z | ⟨x,ox,ws,a1,a2,a3,a4⟩
  · exact .inl z
  · refine .inr ⟨x,ox,ws,a1,?_,a3,a4⟩
    have ne:x≠it:=fun z=>by
      subst z
      rw [e] at a2
      cases a2
      rw [d] at a3
      cases a3
      exact l a4
    exact ((jN e d).2.2.2 x ne).trans a2
theorem aaZ {it l:Addr} {i:Nat} {items:Array Value} {Q:Option Value→Shared→Prop} (hq:a1P A s.heap) (hit:s.heap.IsListIter it l i) (hl:s.heap.IsList l items) (hx:items[i]?=none)
    (h:∀ h',Heap.ExtBut it s.heap h'→Q none { s with heap:=h' }):wpAny (model prog w) A (pyNext (.ref it)) Q E s:=by
  obtain ⟨o,e1,c1,d1⟩:=id hit
  obtain ⟨ol,e2,_,nl,d2⟩:=hl
  refine o9 slot_listiter_next entry_listiter_next hit.typeIs (args_listiter_next _) ?_
  show wpAny (model prog w) _ (field (.ref it) 0 >>= _) _ _ s
  refine wpAny_bind (wpAny_field e1 d1 (x := .ref l) rfl ?_)
  show wpAny (model prog w) _ (field (.ref it) 1 >>= _) _ _ s
  refine wpAny_bind (wpAny_field e1 d1 (x := .int i 0) rfl ?_)
  show wpAny (model prog w) _ (seqItems? (.ref l) >>= _) _ _ s
  refine wpAny_bind (wpAny_seqItems e2 d2 ?_)
  simp only [hx,Int.toNat_natCast]
  refine wpAny_bind (wpAny_rule (wpAny_bind (wpAny_setField e1 d1 (by simp) ?_)))
  refine lJ (A:=A.in1) (z7 hq e1 d1 (by simp)) fun a h' k c=>?_
  obtain ⟨oa,ea,ca⟩:=c
  exact ⟨a,oa,rfl,ea,ca,h h' fun b ob n e=>k b ob (((jN e1 d1).2.2.2 b n).trans e)⟩
theorem acL {it l:Addr} {i:Nat} {items:Array Value} {Q:Option Value→Shared→Prop} (hq:a1P A s.heap) (hit:s.heap.IsTupleIter it l i) (hl:s.heap.IsTuple l items) (hx:items[i]?=none)
    (h:∀ h',Heap.ExtBut it s.heap h'→Q none { s with heap:=h' }):wpAny (model prog w) A (pyNext (.ref it)) Q E s:=by
  obtain ⟨o,e1,c1,d1⟩:=id hit
  obtain ⟨ol,e2,_,nl,d2⟩:=hl
  refine o9 F.slot_tuple_iterator_next F.entry_tuple_iterator_next hit.typeIs (F.args_tuple_iterator_next_1 _) ?_
  show wpAny (model prog w) _ (field (.ref it) 0 >>= _) _ _ s
  refine wpAny_bind (wpAny_field e1 d1 (x := .ref l) rfl ?_)
  show wpAny (model prog w) _ (field (.ref it) 1 >>= _) _ _ s
  refine wpAny_bind (wpAny_field e1 d1 (x := .int i 0) rfl ?_)
  show wpAny (model prog w) _ (seqItems? (.ref l) >>= _) _ _ s
  refine wpAny_bind (wpAny_seqItems e2 d2 ?_)
  simp only [hx,Int.toNat_natCast]
  refine wpAny_bind (wpAny_rule (wpAny_bind (wpAny_setField e1 d1 (by simp) ?_)))
  refine lJ (A:=A.in1) (z7 hq e1 d1 (by simp)) fun a h' k c=>?_
  obtain ⟨oa,ea,ca⟩:=c
  exact ⟨a,oa,rfl,ea,ca,h h' fun b ob n e=>k b ob (((jN e1 d1).2.2.2 b n).trans e)⟩
theorem acM {it:Addr} {x left step:Int} {Q:Option Value→Shared→Prop} (hq:a1P A s.heap) (hit:IsRangeIter s.heap it x left step) (hleft:left≤0)
    (h:∀ h',Heap.ExtBut it s.heap h'→Q none { s with heap:=h' }):wpAny (model prog w) A (pyNext (.ref it)) Q E s:=by
  refine o9 F.slot_range_iterator_next F.entry_range_iterator_next ⟨_,hit,rfl⟩ (F.args_range_iterator_next_1 _) ?_
  show wpAny (model prog w) _ (field (.ref it) 0 >>= _) _ _ s
  refine wpAny_bind (wpAny_field hit rfl (i:=0) rfl ?_)
  show wpAny (model prog w) _ (field (.ref it) 1 >>= _) _ _ s
  refine wpAny_bind (wpAny_field hit rfl (i:=1) rfl ?_)
  show wpAny (model prog w) _ (field (.ref it) 2 >>= _) _ _ s
  refine wpAny_bind (wpAny_field hit rfl (i:=2) rfl ?_)
  show wpAny (model prog w) _ (if left≤0 then _ else _) _ _ s
  rw [if_pos hleft]
  refine wpAny_bind (wpAny_rule (wpAny_bind ?_))
  refine lJ (A:=A.in1) hq fun a h' k c=>?_
  obtain ⟨oa,ea,ca⟩:=c
  exact ⟨a,oa,rfl,ea,ca,h h' fun b ob n e=>k b ob e⟩
theorem ab0 {it:Addr} {x:Str} {t:Tok} {i:Nat} {Q:Option Value→Shared→Prop} (hq:a1P A s.heap) (hit:s.heap.IsStrIter it "str_ascii_iterator" x t i) (hx:x.cps[i]?=none)
    (h:∀ h',Heap.ExtBut it s.heap h'→Q none { s with heap:=h' }):wpAny (model prog w) A (pyNext (.ref it)) Q E s:=by
  obtain ⟨o,e1,c1,d1⟩:=id hit
  refine o9 F.slot_str_ascii_iterator_next F.entry_str_ascii_iterator_next hit.typeIs (F.args_str_ascii_iterator_next_1 _) ?_
  show wpAny (model prog w) _ (field (.ref it) 0 >>= _) _ _ s
  refine wpAny_bind (wpAny_field e1 d1 (x := .str x t) rfl ?_)
  show wpAny (model prog w) _ (field (.ref it) 1 >>= _) _ _ s
  refine wpAny_bind (wpAny_field e1 d1 (x := .int i 0) rfl ?_)
  simp only [hx,Int.toNat_natCast]
  refine wpAny_bind (wpAny_rule (wpAny_bind (wpAny_setField e1 d1 (by simp) (wpAny_bind (wpAny_letGo ?_)))))
  refine lJ (A:=A.in1) (z7 hq e1 d1 (by simp)) fun a h' k c=>?_
  obtain ⟨oa,ea,ca⟩:=c
  exact ⟨a,oa,rfl,ea,ca,h h' fun b ob n e=>k b ob (((jN e1 d1).2.2.2 b n).trans e)⟩
theorem ab1 {it:Addr} {x:Str} {t:Tok} {i:Nat} {Q:Option Value→Shared→Prop} (hq:a1P A s.heap) (hit:s.heap.IsStrIter it "str_iterator" x t i) (hx:x.cps[i]?=none)
    (h:∀ h',Heap.ExtBut it s.heap h'→Q none { s with heap:=h' }):wpAny (model prog w) A (pyNext (.ref it)) Q E s:=by
  obtain ⟨o,e1,c1,d1⟩:=id hit
  refine o9 F.slot_str_iterator_next F.entry_str_iterator_next hit.typeIs (F.args_str_iterator_next_1 _) ?_
  show wpAny (model prog w) _ (field (.ref it) 0 >>= _) _ _ s
  refine wpAny_bind (wpAny_field e1 d1 (x := .str x t) rfl ?_)
  show wpAny (model prog w) _ (field (.ref it) 1 >>= _) _ _ s
  refine wpAny_bind (wpAny_field e1 d1 (x := .int i 0) rfl ?_)
  simp only [hx,Int.toNat_natCast]
  refine wpAny_bind (wpAny_rule (wpAny_bind (wpAny_setField e1 d1 (by simp) (wpAny_bind (wpAny_letGo ?_)))))
  refine lJ (A:=A.in1) (z7 hq e1 d1 (by simp)) fun a h' k c=>?_
  obtain ⟨oa,ea,ca⟩:=c
  exact ⟨a,oa,rfl,ea,ca,h h' fun b ob n e=>k b ob (((jN e1 d1).2.2.2 b n).trans e)⟩
end
end L2
namespace L2
open PySem PySem.Spec PyProof.Rows
abbrev Key:=Sum Int Str
def a2F:Key→Value→Bool
  | .inl k,v=>Value.isInt k v
  | .inr x,v=>Value.isStrOf x v
def avF (w:World):Key→Int
  | .inl k=>hashInt k
  | .inr x=>hashStr w x
theorem cO:∀ {k:Key} {v:Value},a2F k v=true→(∃ i t,k=Sum.inl i∧v=Value.int i t)∨(∃ x t,k=Sum.inr x∧v=Value.str x t)
  | .inl i,v,h=>by
    obtain ⟨t,e⟩:=Value.isInt_shape (k:=i) (v:=v) h
    exact .inl ⟨i,t,rfl,e⟩
  | .inr x,v,h=>by
    obtain ⟨t,e⟩:=Value.isStrOf_shape (x:=x) (v:=v) h
    exact .inr ⟨x,t,rfl,e⟩
theorem ab2 (i:Int) (t:Tok):a2F (.inl i) (.int i t)=true:=by simp [a2F,Value.isInt]
theorem ab3 (x:Str) (t:Tok):a2F (.inr x) (.str x t)=true:=by simp [a2F,Value.isStrOf]
theorem alJ (a b:Int):decide ((Sum.inl a:Key)=Sum.inl b)=(a == b):=by
  by_cases e:a=b
  · subst e;simp
  · have h:¬ (Sum.inl a:Key)=Sum.inl b:=fun q=>e (Sum.inl.inj q)
    rw [decide_eq_false h]
    exact (beq_eq_false_iff_ne.mpr e).symm
theorem alK (a b:Str):decide ((Sum.inr a:Key)=Sum.inr b)=decide (a=b):=by
  by_cases e:a=b
  · subst e;simp
  · have h:¬ (Sum.inr a:Key)=Sum.inr b:=fun q=>e (Sum.inr.inj q)
    rw [decide_eq_false h,decide_eq_false e]
theorem alL (a:Int) (b:Str):decide ((Sum.inl a:Key)=Sum.inr b)=false:=decide_eq_false (fun q=>nomatch q)
theorem alM (a:Str) (b:Int):decide ((Sum.inr a:Key)=Sum.inl b)=false:=decide_eq_false (fun q=>nomatch q)
def c7 (prog:Program) (w:World):PySem.KeyKind prog w Key where
  is:=a2F
  hash:=avF w
  inj:=fun v a b ha hb=>by
    rcases cO ha with ⟨i,t,rfl,rfl⟩ | ⟨x,t,rfl,rfl⟩
    · rcases cO hb with ⟨j,u,rfl,e⟩ | ⟨y,u,rfl,e⟩
      · injection e with e1 _;rw [e1]
      · exact nomatch e
    · rcases cO hb with ⟨j,u,rfl,e⟩ | ⟨y,u,rfl,e⟩
      · exact nomatch e
      · injection e with e1 _;rw [e1]
  byValue:=fun k v h=>by
    rcases cO h with ⟨i,t,rfl,rfl⟩ | ⟨x,t,rfl,rfl⟩ <;> rfl
  pyHash:=fun hv h=>by
    rcases cO hv with ⟨i,t,rfl,rfl⟩ | ⟨x,t,rfl,rfl⟩
    · exact wpAny_pyHash_int h
    · exact wpAny_pyHash_str h
  eqBool:=fun hu hv h=>by
    rcases cO hu with ⟨i,t,rfl,rfl⟩ | ⟨x,t,rfl,rfl⟩
    · rcases cO hv with ⟨j,u,rfl,rfl⟩ | ⟨y,u,rfl,rfl⟩
      · rw [alJ] at h;exact wpAny_eqBool_int h
      · rw [alL] at h;exact SeqAt.EqAt.int_str i t y u _ _ _ _ h
    · rcases cO hv with ⟨j,u,rfl,rfl⟩ | ⟨y,u,rfl,rfl⟩
      · rw [alM] at h;exact SeqAt.EqAt.str_int x t j u _ _ _ _ h
      · rw [alK] at h;exact wpAny_eqBool_str h
  «strs» := fun k x t v h=>by
    rcases cO h with ⟨i,u,rfl,e⟩ | ⟨y,u,rfl,e⟩
    · exact nomatch e
    · injection e with e1 _
      subst e1
      cases v <;> rfl
theorem a5X (prog:Program) (w:World) (i:Int) (t:Tok):(c7 prog w).is (.inl i) (.int i t)=true:=ab2 i t
theorem a5Y (prog:Program) (w:World) (x:Str) (t:Tok):(c7 prog w).is (.inr x) (.str x t)=true:=ab3 x t
end L2
namespace L2
open PySem PySem.Spec PyProof.Rows
inductive V where
  | non | bl (b:Bool) | int (i:Int) | str (x:Str) | byt (b:Array UInt8) | flt (b:UInt64) | ref (a:Addr) | ty (n:String)
  deriving DecidableEq
def RelV:V→Value→Prop
  | .non,u=>u=Value.none
  | .bl b,u=>u=Value.bool b
  | .int i,u=>∃ t,u=Value.int i t
  | .str x,u=>∃ t,u=Value.str x t
  | .byt b,u=>∃ t,u=Value.bytes b t
  | .flt b,u=>∃ t,u=Value.float b t
  | .ref a,u=>u=Value.ref a
  | .ty n,u=>u=Value.type n
abbrev Vals:List V→List Value→Prop:=Paired RelV
theorem Vals.length {xs:List V} {us:List Value} (r:Vals xs us):xs.length=us.length:=Paired.length r
theorem Vals.get:∀ {xs:List V} {us:List Value} {i:Nat} {x:V},Vals xs us→xs[i]?=some x→∃ u,us[i]?=some u∧RelV x u
  | _,_,_,_,.nil,e=>by simp at e
  | _,_,0,_,.cons r _,e=>by simp at e;subst e;exact ⟨_,rfl,r⟩
  | _,_,i+1,x,.cons _ t,e=>by
    obtain ⟨u,h1,h2⟩:=Vals.get (i:=i) (x:=x) t (by simpa using e)
    exact ⟨u,by simpa using h1,h2⟩
theorem Vals.set {x:V} {u:Value} (r:RelV x u):∀ {xs:List V} {us:List Value} (i:Nat),Vals xs us→Vals (xs.set i x) (us.set i u)
  | _,_,_,.nil => .nil
  | _,_,0,.cons _ t => .cons r t
  | _,_,i+1,.cons q t => .cons q (Vals.set r i t)
theorem Vals.append:∀ {xs ys:List V} {us ws:List Value},Vals xs us→Vals ys ws→Vals (xs++ys) (us++ws)
  | _,_,_,_,.nil,s=>s
  | _,_,_,_,.cons r t,s => .cons r (Vals.append t s)
theorem Vals.take:∀ {xs:List V} {us:List Value} (n:Nat),Vals xs us→Vals (xs.take n) (us.take n)
  | _,_,0,_ => .nil
  | _,_,_+1,.nil => .nil
  | _,_,n+1,.cons r t => .cons r (Vals.take n t)
theorem Vals.drop:∀ {xs:List V} {us:List Value} (n:Nat),Vals xs us→Vals (xs.drop n) (us.drop n)
  | _,_,0,r=>r
  | _,_,_+1,.nil => .nil
  | _,_,n+1,.cons _ t=>Vals.drop n t
def yN:Option V→Option Value→Prop
  | some v,some u=>RelV v u
  | none,none=>True
  | _,_=>False
def KV {κ:Type}:List (κ×V)→List (κ×Value)→Prop:=Paired fun (p:κ×V) (q:κ×Value)=>p.1=q.1∧RelV p.2 q.2
def kV:Key→V
  | .inl i => .int i
  | .inr x => .str x
inductive HO where
  | lst (xs:List V)
  | tup (xs:List V)
  | dK (kvs:List (Key×V)) | dT (kvs:List (List Key×V))
  | set (S:Int→Bool) (n:Nat)
  | ins (C dx:Addr) (fs:List (Str×V))
  | own (x:Addr)
  | xd (fs:List (Str×V))
  | met (f x:Addr)
  | rng (lo hi:Int)
  | mZ (o:Obj) (u:HO)
  | xU (ps:Array Value)
  | ext (φ:Heap→Prop)
abbrev Hp:=Addr→Option HO
def upd (H:Hp) (a:Addr) (o:HO):Hp:=fun b=>if b=a then some o else H b
theorem aJ {H:Hp} {a:Addr} {o:HO}:upd H a o a=some o:=by unfold upd;rw [if_pos rfl]
theorem aK {H:Hp} {a b:Addr} {o:HO} (h:b≠a):upd H a o b=H b:=by unfold upd;rw [if_neg h]
theorem rB {H:Hp} {a b:Addr} {o u:HO} (h:H a=some o) (h':H b=some u) (d:o≠u):a≠b:=by
  intro e;subst e;rw [h] at h';exact d (Option.some.inj h')
theorem aP {H:Hp} {a b:Addr} {o:HO} (h:H a=some o) (h':H b=none):a≠b:=by
  intro e;subst e;rw [h] at h';cases h'
section
variable (P:Program) (w:World)
def dO (H:Hp) (h:Heap) (a:Addr):HO→Prop
  | .lst xs=>xs.length≤sizeLine∧∃ (its:List Value) (n:Nat),Vals xs its∧h.get? a=some { cls := .type "list",data := .seq its.toArray n }
  | .tup xs=>xs.length≤sizeLine∧∃ its:List Value,Vals xs its∧IsTup h a its.toArray
  | .dK kvs=>kvs.length≤sizeLine∧(a == sysModules)=false∧∃ vs,KV kvs vs∧h.DictOf (c7 P w) a vs
  | .dT kvs=>kvs.length≤sizeLine∧(a == sysModules)=false∧∃ xs:List (List Key×Addr×Value),
      Paired (fun (p:List Key×V) (q:List Key×Addr×Value)=>p.1=q.1∧H q.2.1=some (.tup (p.1.map kV))∧RelV p.2 q.2.2) kvs xs ∧
      ∃ o es ep,h.get? a=some o∧o.ExactDict∧o.data = .dict es ep∧es.toList=xs.map (entryOfKey (tupleKind (c7 P w)))∧(xs.map (·.1)).Nodup
  | .set S n=>h.SetOf (intKind P w) a S n
  | .ins C dx fs=>H dx=some (.own a)∧fs.length≤1000∧dx≠a∧h.get? a=some (PySem.W.instObj C dx) ∧
      ∃ mA,h.Ns1 dx mA∧(∀ f,yN (fs.lookup f) (mA f))∧PySem.Within mA (fs.map (·.1))
  | .own _=>∃ o,h.get? a=some o
  | .xd fs=>∃ mA,h.Ns1 a mA∧∀ f,yN (fs.lookup f) (mA f)
  | .rng lo hi=>∃ t u v,h.get? a=some { cls := .type "range",data := .fields #[.int lo t,.int hi u,.int 1 v] }
  | .mZ o u=>h.get? a=some o∧dO H h a u
  | .xU ps=>h.get? a=some { cls := .none,data := .fields ps }
  | .met f x=>h.get? a=some (PySem.W.methodObj (.ref f) (.ref x))
  | .ext φ=>φ h∧(∃ o,h.get? a=some o)∧∀ h1 h2:Heap,φ h1→(∀ o,h1.get? a=some o→h2.get? a=some o)→φ h2
def nR (H:Hp) (h:Heap):Prop:=∀ a o,H a=some o→dO P w H h a o
end
section
variable {P:Program} {w:World} {H H':Hp} {h h':Heap} {a:Addr} {o:HO}
theorem dO.lt (x:dO P w H h a o):a < h.objs.size:=by
  cases o with
  | lst xs=>obtain ⟨_,_,_,_,e⟩:=x;exact Heap.lt_size e
  | tup xs=>obtain ⟨_,_,_,p⟩:=x;exact p.lt
  | dK kvs=>obtain ⟨_,_,_,_,o,_,_,e,_⟩:=x;exact Heap.lt_size e
  | dT kvs=>obtain ⟨_,_,_,_,o,_,_,e,_⟩:=x;exact Heap.lt_size e
  | set S n=>obtain ⟨o,_,_,_,e,_⟩:=x;exact Heap.lt_size e
  | ins C dx fs=>obtain ⟨_,_,_,e,_⟩:=x;exact Heap.lt_size e
  | own y=>obtain ⟨_,e⟩:=x;exact Heap.lt_size e
  | xd fs=>obtain ⟨_,⟨_,_,_,e,_⟩,_⟩:=x;exact Heap.lt_size e
  | rng lo hi=>obtain ⟨_,_,_,e⟩:=x;exact Heap.lt_size e
  | mZ ob u=>obtain ⟨e,_⟩:=x;exact Heap.lt_size e
  | xU ps=>exact Heap.lt_size (show h.get? a=some _ from x)
  | met f y=>exact Heap.lt_size (show h.get? a=some _ from x)
  | ext φ=>obtain ⟨_,⟨_,e⟩,_⟩:=x;exact Heap.lt_size e
theorem Paired.alN {α β:Type} {F G:α→β→Prop}:∀ {l₁:List α} {l₂:List β},Paired F l₁ l₂→(∀ a b,F a b→G a b)→Paired G l₁ l₂
  | _,_,.nil,_ => .nil
  | _,_,.cons r t,f => .cons (f _ _ r) (Paired.alN t f)
theorem dO.stay (x:dO P w H h a o) (k:∀ b u,(b=a∨H b=some (.own a))→h.get? b=some u→h'.get? b=some u)
    (ho:∀ b,H b=some (.own a)→H' b=some (.own a)) (ht:∀ b xs,H b=some (.tup xs)→H' b=some (.tup xs)):dO P w H' h' a o:=by
  induction o with
  | lst xs=>obtain ⟨z,its,n,r,e⟩:=x;exact ⟨z,its,n,r,k _ _ (.inl rfl) e⟩
  | tup xs=>obtain ⟨z,its,r,ob,e,c⟩:=x;exact ⟨z,its,r,ob,k _ _ (.inl rfl) e,c⟩
  | dK kvs=>obtain ⟨z,y,vs,r,ob,es,ep,e,c⟩:=x;exact ⟨z,y,vs,r,ob,es,ep,k _ _ (.inl rfl) e,c⟩
  | dT kvs =>
    obtain ⟨z,y,xs,r,ob,es,ep,e,c⟩:=x
    exact ⟨z,y,xs,Paired.alN r fun p q z=>⟨z.1,ht _ _ z.2.1,z.2.2⟩,ob,es,ep,k _ _ (.inl rfl) e,c⟩
  | set S n=>obtain ⟨ob,es,ep,t,e,c⟩:=x;exact ⟨ob,es,ep,t,k _ _ (.inl rfl) e,c⟩
  | ins C dx fs =>
    obtain ⟨d,z,ne,e,mA,⟨od,es,ep,e2,c⟩,r⟩:=x
    exact ⟨ho _ d,z,ne,k _ _ (.inl rfl) e,mA,⟨od,es,ep,k _ _ (.inr d) e2,c⟩,r⟩
  | own y=>obtain ⟨ob,e⟩:=x;exact ⟨ob,k _ _ (.inl rfl) e⟩
  | xd fs=>obtain ⟨mA,⟨od,es,ep,e,c⟩,r⟩:=x;exact ⟨mA,⟨od,es,ep,k _ _ (.inl rfl) e,c⟩,r⟩
  | rng lo hi=>obtain ⟨t,u,v,e⟩:=x;exact ⟨t,u,v,k _ _ (.inl rfl) e⟩
  | mZ ob u ih=>obtain ⟨e,q⟩:=x;exact ⟨k _ _ (.inl rfl) e,ih q⟩
  | xU ps =>
    have e:h.get? a=some { cls := .none,data := .fields ps }:=x
    show h'.get? a=some { cls := .none,data := .fields ps }
    exact k a _ (.inl rfl) e
  | met f y =>
    have e:h.get? a=some (PySem.W.methodObj (.ref f) (.ref y)):=x
    show h'.get? a=some (PySem.W.methodObj (.ref f) (.ref y))
    exact k a _ (.inl rfl) e
  | ext φ=>obtain ⟨p,⟨o,e⟩,st⟩:=x;exact ⟨st _ _ p fun o q=>k _ _ (.inl rfl) q,⟨o,k _ _ (.inl rfl) e⟩,st⟩
theorem nR.lt (x:nR P w H h) (e:H a=some o):a < h.objs.size:=(x a o e).lt
theorem nR.fresh (x:nR P w H h) (e:h.objs.size≤a):H a=none:=by
  cases q:H a with
  | none=>rfl
  | some u=>exact absurd (Nat.lt_of_lt_of_le (x.lt q) e) (Nat.lt_irrefl _)
theorem nR.kept (x:nR P w H h) (k:∀ b u,h.get? b=some u→h'.get? b=some u):nR P w H h':=fun a o e =>
  (x a o e).stay (fun b u _ q=>k b u q) (fun _ q=>q) fun _ _ q=>q
theorem nR.laid (x:nR P w H h) (k:∀ b u,h.get? b=some u→h'.get? b=some u) (hp:h.objs.size≤a) (new:dO P w (upd H a o) h' a o):nR P w (upd H a o) h':=fun b u e=>by
  have hn:=x.fresh hp
  by_cases hb:b=a
  · subst hb;rw [aJ] at e;cases e;exact new
  · rw [aK hb] at e
    exact (x b u e).stay (fun c v _ q=>k c v q) (fun c q=>by rw [aK (aP q hn)];exact q) fun c xs q=>by rw [aK (aP q hn)];exact q
end
def Rd (H:Hp) (a:Addr) (u:HO):Prop:=H a=some u∨∃ o,H a=some (.mZ o u)
theorem Rd.of {H:Hp} {a:Addr} {u:HO} (h:H a=some u):Rd H a u := .inl h
theorem Rd.ok {P:Program} {w:World} {H:Hp} {h:Heap} {a:Addr} {u:HO} (r:Rd H a u) (x:nR P w H h):dO P w H h a u:=by
  rcases r with r | ⟨o,r⟩
  · exact x a u r
  · obtain ⟨_,q⟩:=x a _ r
    exact q
def Mut:Option HO→Prop
  | some (.lst _)=>True
  | some (.dK _)=>True
  | some (.dT _)=>True
  | some (.set _ _)=>True
  | some (.ins _ _ _)=>True
  | some (.ext _)=>True
  | _=>False
section
variable {P:Program} {w:World} {H:Hp} {h h':Heap} {x e:Addr} {o':HO}
theorem nR.write (ok:nR P w H h) (mu:Mut (H x)) (he:e=x∨H e=some (.own x)) (k:∀ b u,b≠e→h.get? b=some u→h'.get? b=some u) (heo:∃ u,h'.get? e=some u)
    (new:dO P w (upd H x o') h' x o'):nR P w (upd H x o') h':=fun b u q=>by
  have aq5:∀ c y,H c=some (.own y)→c≠x:=fun c y r z=>by subst z;rw [r] at mu;exact mu
  have avG:∀ c xs,H c=some (.tup xs)→c≠x:=fun c xs r z=>by subst z;rw [r] at mu;exact mu
  by_cases hb:b=x
  · subst hb;rw [aJ] at q;cases q;exact new
  · rw [aK hb] at q
    by_cases hbe:b=e
    · have q':H b=some (.own x):=by
        rcases he with z | z
        · exact absurd (hbe.trans z) hb
        · rw [hbe];exact z
      rw [q] at q';cases q'
      obtain ⟨v,hv⟩:=heo
      exact ⟨v,by rw [hbe];exact hv⟩
    · refine (ok b u q).stay (fun c v hc r=>k c v ?_ r) (fun c r=>by rw [aK (aq5 c b r)];exact r) fun c xs r=>by rw [aK (avG c xs r)];exact r
      rcases hc with rfl | hc
      · exact hbe
      · rintro rfl
        rcases he with z | z
        · exact aq5 c b hc z
        · rw [hc] at z;cases z;exact hb rfl
end
structure Un (fs ex:List Addr) (H H':Hp) (h h':Heap):Prop where
  keep:∀ b o,h.get? b=some o→H b=none→b ∉ fs→b ∉ ex→h'.get? b=some o
  slot:∀ b o,h.get? b=some o→H b=none→b∈fs→b ∉ ex→∃ sl,h'.get? b=some { o with slots:=sl }
  free:∀ b o,h.get? b=some o→H b=none→b ∉ ex→H' b=none
  there:∀ b o,h.get? b=some o→b ∉ ex→∃ o',h'.get? b=some o'
  tups:∀ b xs,H b=some (.tup xs)→H' b=some (.tup xs)
  d9:∀ b o u,H b=some (.mZ o u)→H' b=some (.mZ o u)
  jO:∀ b ps,H b=some (.xU ps)→∃ more,H' b=some (.xU (ps++more))
section
variable {fs fs' ex ex':List Addr} {H H1 H2:Hp} {h h1 h2 h':Heap} {a x e:Addr} {o:HO}
theorem Un.any (u:Un fs ex H H1 h h1) {b:Addr} {ob:Obj} (q:h.get? b=some ob) (n:H b=none) (hx:b ∉ ex):∃ sl,h1.get? b=some { ob with slots:=sl }:=by
  by_cases hb:b∈fs
  · exact u.slot b ob q n hb hx
  · exact ⟨ob.slots,u.keep b ob q n hb hx⟩
theorem Un.trans (a:Un fs ex H H1 h h1) (b:Un fs ex H1 H2 h1 h2):Un fs ex H H2 h h2 where
  keep:=fun c ob q n hc hx=>b.keep c ob (a.keep c ob q n hc hx) (a.free c ob q n hx) hc hx
  slot:=fun c ob q n hc hx=>by
    obtain ⟨sl,e1⟩:=a.slot c ob q n hc hx
    obtain ⟨sl',e2⟩:=b.slot c _ e1 (a.free c ob q n hx) hc hx
    exact ⟨sl',e2⟩
  free:=fun c ob q n hx=>by
    obtain ⟨o',e1⟩:=a.there c ob q hx
    exact b.free c o' e1 (a.free c ob q n hx) hx
  there:=fun c ob q hx=>by
    obtain ⟨o',e1⟩:=a.there c ob q hx
    exact b.there c o' e1 hx
  tups:=fun c xs q=>b.tups c xs (a.tups c xs q)
  d9:=fun c ob xs q=>b.d9 c ob xs (a.d9 c ob xs q)
  jO:=fun c ps q=>by
    obtain ⟨m1,e1⟩:=a.jO c ps q
    obtain ⟨m2,e2⟩:=b.jO c _ e1
    exact ⟨m1++m2,by rw [e2,Array.append_assoc]⟩
theorem Un.kept (k:∀ b u,h.get? b=some u→h'.get? b=some u):Un fs ex H H h h' :=
  ⟨fun b ob q _ _ _=>k b ob q,fun b ob q _ _ _=>⟨ob.slots,k b ob q⟩,fun _ _ _ n _=>n,fun b ob q _=>⟨ob,k b ob q⟩,fun _ _ q=>q,fun _ _ _ q=>q,fun _ ps q=>⟨#[],by rw [q];simp⟩⟩
theorem Un.refl:Un fs ex H H h h:=Un.kept fun _ _ q=>q
theorem Un.laid (k:∀ b u,h.get? b=some u→h'.get? b=some u) (hp:h.objs.size≤a) (hn:H a=none):Un fs ex H (upd H a o) h h' where
  keep:=fun b u q _ _ _=>k b u q
  slot:=fun b u q _ _ _=>⟨u.slots,k b u q⟩
  free:=fun b u q n _=>by rw [aK (Nat.ne_of_lt (Nat.lt_of_lt_of_le (Heap.lt_size q) hp))];exact n
  there:=fun b u q _=>⟨u,k b u q⟩
  tups:=fun b xs q=>by rw [aK (aP q hn)];exact q
  d9:=fun b u xs q=>by rw [aK (aP q hn)];exact q
  jO:=fun b ps q=>⟨#[],by rw [aK (aP q hn),q];simp⟩
theorem Un.write (mu:Mut (H x)) (he:e=x∨H e=some (.own x)) (k:∀ b u,b≠e→h.get? b=some u→h'.get? b=some u) (heo:∃ u,h'.get? e=some u):Un fs ex H (upd H x o) h h':=by
  have hx:∀ b,H b=none→b≠x:=fun b n z=>by subst z;rw [n] at mu;exact mu
  have hb:∀ b,H b=none→b≠e:=fun b n z=>by
    subst z
    rcases he with r | r
    · exact hx b n r
    · rw [n] at r;cases r
  have hm:∀ b u,H b=some u→¬ Mut (some u)→b≠x:=fun b u q nm z=>by subst z;rw [q] at mu;exact nm mu
  refine ⟨fun b u q n _ _=>k b u (hb b n) q,fun b u q n _ _=>⟨u.slots,k b u (hb b n) q⟩,fun b u q n _=>by rw [aK (hx b n)];exact n,fun b u q _=>?_,
    fun b xs q=>by rw [aK (hm b _ q fun z=>z)];exact q,fun b u xs q=>by rw [aK (hm b _ q fun z=>z)];exact q,fun b ps q=>⟨#[],by rw [aK (hm b _ q fun z=>z),q];simp⟩⟩
  by_cases hbe:b=e
  · subst hbe;exact heo
  · exact ⟨u,k b u hbe q⟩
theorem Un.mono (u:Un fs ex H H1 h h1) (hs:∀ b∈fs,b∈fs') (hx:∀ b∈ex,b∈ex'):Un fs' ex' H H1 h h1 :=
  ⟨fun b ob q n hb he=>u.keep b ob q n (fun z=>hb (hs b z)) fun z=>he (hx b z),fun _ _ q n _ he=>u.any q n fun z=>he (hx _ z),fun b ob q n he=>u.free b ob q n fun z=>he (hx b z),fun b ob q he=>u.there b ob q fun z=>he (hx b z),u.tups,u.d9,u.jO⟩
end
def trk (h:Heap) (H:Hp):List Addr:=(List.range h.objs.size).filter fun a=>(H a).isSome
def zK (h:Heap) (H:Hp):Heap:=PySem.W.hideAll h (trk h H)
theorem ab4 (h:Heap) (H:Hp):(zK h H).objs.size=h.objs.size:=PySem.W.hideAll_size _ _
theorem acN {h:Heap} {H:Hp} {b:Addr} {o:Obj} (e:h.get? b=some o) (n:H b=none):(zK h H).get? b=some o :=
  PySem.W.hideAll_get _ e fun hm=>by
    have q:(H b).isSome=true:=(List.mem_filter.mp hm).2
    rw [n] at q;simp at q
theorem agM {h:Heap} {H:Hp} {b:Addr} {o:Obj} (e:(zK h H).get? b=some o):h.get? b=some o∧H b=none:=by
  have e':h.get? b=some o:=PySem.W.of_hideAll (trk h H) e
  refine ⟨e',?_⟩
  cases q:H b with
  | none=>rfl
  | some x =>
    have hm:b∈trk h H:=List.mem_filter.mpr ⟨List.mem_range.mpr (Heap.lt_size e'),by simp [q]⟩
    have z:(zK h H).get? b=none:=PySem.W.hideAll_none (trk h H) hm
    rw [z] at e;cases e
def agN (g h:Heap) (L:Addr):List (Addr×Obj):=(List.range h.objs.size).filterMap fun a=>if a=L∨(g.get? a).isSome=true then none else (h.get? a).map fun o=>(a,o)
def rest (g h:Heap) (L d:Addr):List (Addr×Obj):=(agN g h L).filter fun p=>decide (p.1≠d)
end L2
namespace L2
open PySem PySem.Spec PyProof.Rows
structure Mod (K:PySem.W.Frag) (mg:Str→Option Value) (base:Heap):Prop where
  kin:K.In base
  glob:base.Ns mainGlobals mg
  blt:∃ mb,base.Ns builtinsNs mb∧∀ x:Str,x ≠ "__name__" → mb x=bootBuiltins x
  nolimit:base.NoLimit
structure Cx where
  prog:Program
  w:World
  K:PySem.W.Frag
  mg:Str→Option Value
  base:Heap
  A:Around
  N:List Str
  s₀:Shared
  H₀:Hp
  env:Env
  outer:List Env
  stack:List Env
  ex:List Addr
  fn:Str→Bool
  calm:Bool
  pn:List (Addr×Obj)
  tp:List (Addr×List V)
  xe:Value→Shared→Prop
  need:Bool:=false
def frs (l:List Env):List Addr:=l.filterMap (·.frame)
abbrev Cx.fs (X:Cx):List Addr:=frs X.outer
def Vis (sc:Scope) (x:Str):Prop:=sc.names.lookup x=some .local∨sc.names.lookup x=some .cell∨sc.names.lookup x=some .free
def Loc (sc:Scope) (x:Str):Prop:=sc.names.lookup x=some .local∨sc.names.lookup x=some .cell
def Look (env:Env) (h:Heap) (m:Str→Option Value) (x:Str) (u:Value):Prop :=
  (env.kindOf x=some .local∧m x=some u)∨((env.kindOf x=some .cell∨env.kindOf x=some .free)∧∃ c,env.cells.lookup x=some c∧h.IsCell c (some u))
structure Cx.Ok (X:Cx):Prop where
  mod:Mod X.K X.mg X.base
  kind:X.env.scope.kind = .function
  glob:X.env.globals=mainGlobals
  blt:X.env.builtins=builtinsNs
  above:X.s₀.heap.objs.size≤X.env.locals
  inj:∀ x y c,X.env.cells.lookup x=some c→X.env.cells.lookup y=some c→x=y
  has:∀ x,(X.env.kindOf x=some .cell∨X.env.kindOf x=some .free)→∃ c,X.env.cells.lookup x=some c
  cab:∀ x c,X.fn x=true→X.env.cells.lookup x=some c→X.s₀.heap.objs.size≤c
  hd:X.calm=true→X.A.handled=none
  frames:X.A.frames=some X.stack
  stk:X.stack=X.outer∨(X.stack=X.env :: X.outer∧X.env.frame=some X.env.locals)
  exf:∀ b∈X.ex,b≠X.env.locals∧∀ x c,X.env.cells.lookup x=some c→c≠b
  bs:∀ b o,X.base.get? b=some o→X.s₀.heap.get? b=some o∧X.H₀ b=none
  bsz:X.base.objs.size≤X.s₀.heap.objs.size
  yO:∀ b o,X.base.get? b=some o→b ∉ X.ex
  zL:∀ b∈X.ex,b ∉ X.fs
  lK:X.s₀.heap.FunFrames X.base X.outer
  frf:∀ b∈X.fs,X.H₀ b=none
def Hnd (A:Around) (H:Hp):Prop:=A.handled=none∨∃ x o u vs,A.handled=some (.ref x)∧H x=some (.mZ o u)∧o.data = .fields vs∧vs[2]?=some .none
theorem Hnd.mono {A:Around} {H H':Hp} (h:Hnd A H) (f:∀ b o u,H b=some (.mZ o u)→H' b=some (.mZ o u)):Hnd A H':=by
  rcases h with z | ⟨x,o,u,vs,a,b,c⟩
  · exact .inl z
  · exact .inr ⟨x,o,u,vs,a,f _ _ _ b,c⟩
theorem Hnd.heap {P:Program} {w:World} {A:Around} {H:Hp} {h:Heap} (q:Hnd A H) (hok:nR P w H h):a1P A h:=by
  rcases q with z | ⟨x,o,u,vs,a,b,c⟩
  · exact .inl z
  · exact .inr ⟨x,o,vs,a,(hok x _ b).1,c⟩
structure Inv (X:Cx) (pins:List (Addr×Obj)) (σ:List (Option V)) (H:Hp) (s:Shared):Prop where
  ok:X.Ok
  os:s.os=X.s₀.os
  bare:AllBare s.gens
  base:Un X.fs X.ex X.H₀ H X.s₀.heap s.heap
  loc:∃ m,s.heap.Ns X.env.locals m∧∀ (i:Nat) (x:Str) (v:V),X.N[i]?=some x→σ[i]?=some (some v)→Vis X.env.scope x→∃ u,RelV v u∧Look X.env s.heap m x u
  cell:∀ x c,X.env.cells.lookup x=some c→∃ v,s.heap.IsCell c v
  free:H X.env.locals=none
  fG:∀ x c,X.env.cells.lookup x=some c→H c=none
  pin:∀ p∈X.pn++pins,s.heap.get? p.1=some p.2∧H p.1=none∧p.1≠X.env.locals∧p.1 ∉ X.fs∧∀ v,p.2.data ≠ .cell v
  hok:nR X.prog X.w H s.heap
  len:σ.length=X.N.length
  hnd:Hnd X.A H
  tup:∀ p∈X.tp,H p.1=some (.tup p.2)
section
variable {X:Cx} {pins:List (Addr×Obj)} {σ:List (Option V)} {H H':Hp} {s:Shared} {h':Heap}
theorem Cx.Ok.avH (ok:X.Ok) {b:Addr} {o:Obj} (e:X.base.get? b=some o):b ∉ X.fs:=fun hb=>by
  have:=(ok.lK.mem hb).1
  rw [e] at this;cases this
theorem Inv.bs (I:Inv X pins σ H s):∀ b o,X.base.get? b=some o→s.heap.get? b=some o∧H b=none:=fun b o e =>
  ⟨I.base.keep b o (I.ok.bs b o e).1 (I.ok.bs b o e).2 (I.ok.avH e) (I.ok.yO b o e),I.base.free b o (I.ok.bs b o e).1 (I.ok.bs b o e).2 (I.ok.yO b o e)⟩
theorem Inv.bk (I:Inv X pins σ H s):∀ b o,X.base.get? b=some o→s.heap.get? b=some o:=fun b o e=>(I.bs b o e).1
theorem Inv.mod (I:Inv X pins σ H s):Mod X.K X.mg X.base:=I.ok.mod
theorem Inv.xV (I:Inv X pins σ H s):X.K.In s.heap:=I.ok.mod.kin.keeps I.bk
theorem Inv.nolimit (I:Inv X pins σ H s):s.heap.NoLimit:=I.ok.mod.nolimit.keeps I.bk
theorem Inv.fr (I:Inv X pins σ H s):∃ m,Fr X.base X.env.locals s.heap m :=
  let ⟨m,hn,_⟩:=I.loc
  ⟨m,hn,I.bk,Nat.le_trans I.ok.bsz I.ok.above⟩
theorem Inv.lt (I:Inv X pins σ H s):X.env.locals < s.heap.objs.size:=let ⟨_,hn,_⟩:=I.loc;hn.lt
theorem Inv.sz (I:Inv X pins σ H s):X.s₀.heap.objs.size≤s.heap.objs.size:=Nat.le_trans I.ok.above (Nat.le_of_lt I.lt)
theorem Inv.avI (I:Inv X pins σ H s) {a:Addr} (h:s.heap.objs.size≤a):a ∉ X.fs:=fun hb=>by
  obtain ⟨_,o,ho,_⟩:=I.ok.lK.mem hb
  exact absurd (Nat.lt_of_lt_of_le (Heap.lt_size ho) (Nat.le_trans I.sz h)) (Nat.lt_irrefl _)
theorem Inv.cne (I:Inv X pins σ H s):∀ x c,X.env.cells.lookup x=some c→c≠X.env.locals:=fun x c e z=>by
  obtain ⟨v,o,ho,hd⟩:=I.cell x c e
  obtain ⟨m,⟨o',es,ep,ho',hd',_⟩,_⟩:=I.loc
  rw [z,ho'] at ho;cases ho;rw [hd'] at hd;cases hd
theorem Inv.lK (I:Inv X pins σ H s):s.heap.FunFrames X.base X.outer:=by
  have all:∀ (l:List Env),(∀ b∈frs l,b∈X.fs)→X.s₀.heap.FunFrames X.base l→s.heap.FunFrames X.base l:=by
    intro l
    induction l with
    | nil=>intro _ _;trivial
    | cons env r ih =>
      intro hs hl
      obtain ⟨hk,⟨L,o,hf,hn,ho,hd⟩,hr⟩:=hl
      have hL:L∈X.fs:=hs L (by unfold frs;rw [List.filterMap_cons,hf];exact List.mem_cons_self)
      obtain ⟨sl,e⟩:=I.base.slot L o ho (I.ok.frf L hL) hL fun z=>I.ok.zL L z hL
      exact ⟨hk,⟨L,_,hf,hn,e,hd⟩,ih (fun b hb=>hs b (by unfold frs;rw [List.filterMap_cons,hf];exact List.mem_cons_of_mem _ hb)) hr⟩
  exact all X.outer (fun _ hb=>hb) I.ok.lK
theorem Inv.stack (I:Inv X pins σ H s):s.heap.FunFrames X.base X.stack:=by
  rcases I.ok.stk with e | ⟨e,hf⟩
  · rw [e];exact I.lK
  · rw [e]
    obtain ⟨m,hn,_⟩:=I.loc
    refine .cons (by rw [I.ok.kind];decide) hf hn ?_ I.lK
    exact Heap.get?_none_of_le (Nat.le_trans I.ok.bsz I.ok.above)
theorem Inv.a7U (I:Inv X pins σ H s):∀ b∈frs X.stack,b∈X.env.locals :: X.fs:=fun b hb=>by
  rcases I.ok.stk with e | ⟨e,hf⟩
  · rw [e] at hb;exact List.mem_cons_of_mem _ hb
  · rw [e] at hb
    unfold frs at hb
    rw [List.filterMap_cons,hf] at hb
    exact hb
theorem Inv.a3R (I:Inv X pins σ H s):∀ b∈frs X.stack,H b=none:=fun b hb=>by
  rcases List.mem_cons.mp (I.a7U b hb) with e | hb
  · rw [e];exact I.free
  · obtain ⟨_,o,ho,_⟩:=I.ok.lK.mem hb
    exact I.base.free b o ho (I.ok.frf b hb) fun z=>I.ok.zL b z hb
theorem Inv.step {g':Array GenState} {t':Nat} {d':Drawn} {ch:List Addr} (I:Inv X pins σ H s)
    (hch:∀ b∈ch,(b∈X.ex∨X.s₀.heap.objs.size≤b)∧b≠X.env.locals∧(∀ x c,X.env.cells.lookup x=some c→c≠b)∧∀ p∈X.pn++pins,p.1≠b)
    (keep:∀ b o,b≠X.env.locals→b ∉ X.fs→b ∉ ch→s.heap.get? b=some o→H b=none→h'.get? b=some o)
    (slot:∀ b o,b≠X.env.locals→b∈X.fs→b ∉ ch→s.heap.get? b=some o→H b=none→∃ sl,h'.get? b=some { o with slots:=sl }) (free:∀ b o,b ∉ ch→s.heap.get? b=some o→H b=none→H' b=none)
    (there:∀ b o,b ∉ ch→s.heap.get? b=some o→∃ o',h'.get? b=some o')
    (tups:∀ b xs,H b=some (.tup xs)→H' b=some (.tup xs)) (d9:∀ b o u,H b=some (.mZ o u)→H' b=some (.mZ o u)) (jO:∀ b ps,H b=some (.xU ps)→∃ more,H' b=some (.xU (ps++more)))
    (ns:∀ m,s.heap.Ns X.env.locals m→h'.Ns X.env.locals m) (hok:nR X.prog X.w H' h') (hg:AllBare g') :
    Inv X pins σ H' { s with heap:=h',gens:=g',drawn:=d',toks:=t' }:=by
  have neL:∀ b o,X.s₀.heap.get? b=some o→b≠X.env.locals:=fun b o e=>Nat.ne_of_lt (Nat.lt_of_lt_of_le (Heap.lt_size e) I.ok.above)
  have neC:∀ b o,X.s₀.heap.get? b=some o→b ∉ X.ex→b ∉ ch:=fun b o e hx hb=>by
    rcases (hch b hb).1 with z | z
    · exact hx z
    · exact absurd (Nat.lt_of_lt_of_le (Heap.lt_size e) z) (Nat.lt_irrefl _)
  have cellK:∀ x c,X.env.cells.lookup x=some c→∀ v,s.heap.IsCell c v→h'.IsCell c v:=fun x c e v ⟨o,ho,hd⟩=>by
    have nch:c ∉ ch:=fun z=>(hch c z).2.2.1 x c e rfl
    by_cases hc:c∈X.fs
    · obtain ⟨sl,q⟩:=slot c o (I.cne x c e) hc nch ho (I.fG x c e)
      exact ⟨_,q,hd⟩
    · exact ⟨o,keep c o (I.cne x c e) hc nch ho (I.fG x c e),hd⟩
  refine ⟨I.ok,I.os,hg,⟨fun b o e n hb hx=>?_,fun b o e n hb hx=>?_,fun b o e n hx=>?_,fun b o e hx=>?_,fun b xs e=>tups b xs (I.base.tups b xs e),fun b o xs e=>d9 b o xs (I.base.d9 b o xs e),fun b ps e=>?_⟩,?_,fun x c e=>?_,?_,fun x c e=>?_,fun p hp=>?_,hok,I.len,I.hnd.mono d9,fun p hp=>tups _ _ (I.tup p hp)⟩
  · exact keep b o (neL b o e) hb (neC b o e hx) (I.base.keep b o e n hb hx) (I.base.free b o e n hx)
  · obtain ⟨sl,e1⟩:=I.base.slot b o e n hb hx
    obtain ⟨sl',e2⟩:=slot b _ (neL b o e) hb (neC b o e hx) e1 (I.base.free b o e n hx)
    exact ⟨sl',e2⟩
  · obtain ⟨o',e1⟩:=I.base.there b o e hx
    exact free b o' (neC b o e hx) e1 (I.base.free b o e n hx)
  · obtain ⟨o',e1⟩:=I.base.there b o e hx
    exact there b o' (neC b o e hx) e1
  · obtain ⟨m1,e1⟩:=I.base.jO b ps e
    obtain ⟨m2,e2⟩:=jO b _ e1
    exact ⟨m1++m2,by rw [e2,Array.append_assoc]⟩
  · obtain ⟨m,hn,hl⟩:=I.loc
    refine ⟨m,ns m hn,fun i x v e1 e2 e3=>?_⟩
    obtain ⟨u,r,l⟩:=hl i x v e1 e2 e3
    refine ⟨u,r,?_⟩
    rcases l with l | ⟨k,c,e,z⟩
    · exact .inl l
    · exact .inr ⟨k,c,e,cellK x c e _ z⟩
  · obtain ⟨v,z⟩:=I.cell x c e
    exact ⟨v,cellK x c e v z⟩
  · obtain ⟨m,⟨o,_,_,ho,_⟩,_⟩:=I.loc
    exact free _ o (fun z=>(hch _ z).2.1 rfl) ho I.free
  · obtain ⟨v,o,ho,hd⟩:=I.cell x c e
    exact free c o (fun z=>(hch c z).2.2.1 x c e rfl) ho (I.fG x c e)
  · obtain ⟨e,n,ne,nf,d⟩:=I.pin p hp
    have nch:p.1 ∉ ch:=fun z=>(hch p.1 z).2.2.2 p hp rfl
    exact ⟨keep p.1 p.2 ne nf nch e n,free p.1 p.2 nch e n,ne,nf,d⟩
theorem Inv.un {t':Nat} (I:Inv X pins σ H s) (u:Un X.fs [] H H' s.heap h') (hok:nR X.prog X.w H' h'):Inv X pins σ H' { s with heap:=h',toks:=t' }:=by
  obtain ⟨m,⟨o,es,ep,ho,r⟩,_⟩:=id I.loc
  obtain ⟨sl,hL⟩:=u.any ho I.free (by simp)
  exact I.step (g':=s.gens) (d':=s.drawn) (ch:=[]) (fun _ z=>nomatch z) (fun b o _ hb _ e n=>u.keep b o e n hb (by simp)) (fun b o _ hb _ e n=>u.slot b o e n hb (by simp)) (fun b o _ e n=>u.free b o e n (by simp)) (fun b o _ e=>u.there b o e (by simp)) u.tups u.d9 u.jO (fun m' hm=>by
    obtain ⟨o',es',ep',ho',r'⟩:=hm
    rw [ho] at ho';cases ho'
    exact ⟨_,es',ep',hL,r'⟩) hok I.bare
theorem Inv.call {g':Array GenState} {t':Nat} {d':Drawn} {ch:List Addr} (I:Inv X pins σ H s) (u:Un (frs X.stack) ch H H' s.heap h') (hok:nR X.prog X.w H' h') (hg:AllBare g')
    (hch:∀ b∈ch,(b∈X.ex∨X.s₀.heap.objs.size≤b)∧b≠X.env.locals∧(∀ x c,X.env.cells.lookup x=some c→c≠b)∧∀ p∈X.pn++pins,p.1≠b) :
    Inv X pins σ H' { s with heap:=h',gens:=g',drawn:=d',toks:=t' }:=by
  obtain ⟨m,⟨o,es,ep,ho,r⟩,_⟩:=id I.loc
  obtain ⟨sl,hL⟩:=u.any ho I.free fun z=>(hch _ z).2.1 rfl
  exact I.step (ch:=ch) hch (fun b o hL hb hc e n=>u.keep b o e n (fun z=>(List.mem_cons.mp (I.a7U b z)).elim hL hb) hc) (fun b o _ _ hc e n=>u.any e n hc) (fun b o hc e n=>u.free b o e n hc) (fun b o hc e=>u.there b o e hc) u.tups u.d9 u.jO (fun m' hm=>by
    obtain ⟨o',es',ep',ho',r'⟩:=hm
    rw [ho] at ho';cases ho'
    exact ⟨_,es',ep',hL,r'⟩) hok hg
theorem Inv.turned {t':Nat} {it:Addr} (I:Inv X pins σ H s) (k:∀ b o,b≠it→s.heap.get? b=some o→h'.get? b=some o) (hn:H it=none) (hL:it≠X.env.locals)
    (h1:it∈X.ex∨X.s₀.heap.objs.size≤it) (h2:∀ x c,X.env.cells.lookup x=some c→c≠it) (h3:∀ p∈X.pn++pins,p.1≠it):Inv X pins σ H { s with heap:=h',toks:=t' }:=by
  have nit:∀ b u,H b=some u→b≠it:=fun b u e z=>by rw [z,hn] at e;cases e
  refine I.step (g':=s.gens) (d':=s.drawn) (ch:=[it]) (fun b hb=>?_) (fun b o _ _ hc e _=>k b o (fun z=>hc (by simp [z])) e) (fun b o _ _ hc e _=>⟨o.slots,k b o (fun z=>hc (by simp [z])) e⟩) (fun _ _ _ _ n=>n)
    (fun b o hc e=>⟨o,k b o (fun z=>hc (by simp [z])) e⟩) (fun _ _ e=>e) (fun _ _ _ e=>e) (fun b ps e=>⟨#[],by rw [e];simp⟩) (fun m hm=>?_) (fun b u e=>?_) I.bare
  · have e:b=it:=by simpa using hb
    subst e
    exact ⟨h1,hL,h2,h3⟩
  · obtain ⟨o,es,ep,ho,r⟩:=hm
    exact ⟨o,es,ep,k _ o (Ne.symm hL) ho,r⟩
  · refine (I.hok b u e).stay (fun c v hc q=>k c v ?_ q) (fun _ q=>q) fun _ _ q=>q
    rcases hc with z | z
    · rw [z];exact nit b u e
    · exact nit c _ z
theorem Inv.tok (I:Inv X pins σ H s) (t:Nat):Inv X pins σ H { s with toks:=t }:=I.un (h':=s.heap) (t':=t) Un.refl I.hok
theorem Inv.kept {t':Nat} (I:Inv X pins σ H s) (k:∀ b u,s.heap.get? b=some u→h'.get? b=some u):Inv X pins σ H { s with heap:=h',toks:=t' }:=I.un (Un.kept k) (I.hok.kept k)
theorem Inv.laid {a:Addr} {o:HO} {t':Nat} (I:Inv X pins σ H s) (k:∀ b u,s.heap.get? b=some u→h'.get? b=some u) (hp:s.heap.objs.size≤a) (new:dO X.prog X.w (upd H a o) h' a o) :
    Inv X pins σ (upd H a o) { s with heap:=h',toks:=t' }:=I.un (Un.laid k hp (I.hok.fresh hp)) (I.hok.laid k hp new)
theorem Inv.write {x e:Addr} {o:HO} {t':Nat} (I:Inv X pins σ H s) (mu:Mut (H x)) (he:e=x∨H e=some (.own x)) (k:∀ b u,b≠e→s.heap.get? b=some u→h'.get? b=some u) (heo:∃ u,h'.get? e=some u)
    (new:dO X.prog X.w (upd H x o) h' x o):Inv X pins σ (upd H x o) { s with heap:=h',toks:=t' }:=I.un (Un.write mu he k heo) (I.hok.write mu he k heo new)
theorem Inv.weak {σ':List (Option V)} (I:Inv X pins σ H s) (hl:σ'.length=σ.length) (w:∀ (i:Nat) v,σ'[i]?=some (some v)→σ[i]?=some (some v)):Inv X pins σ' H s :=
  ⟨I.ok,I.os,I.bare,I.base,let ⟨m,hn,hl'⟩:=I.loc;⟨m,hn,fun i x v e1 e2 e3=>hl' i x v e1 (w i v e2) e3⟩,I.cell,I.free,I.fG,I.pin,I.hok,hl.trans I.len,I.hnd,I.tup⟩
theorem Inv.a96 {rC:List (Addr×Obj)} (I:Inv X pins σ H s) (h:∀ p∈rC,s.heap.get? p.1=some p.2∧H p.1=none∧p.1≠X.env.locals∧p.1 ∉ X.fs∧∀ v,p.2.data ≠ .cell v):Inv X rC σ H s :=
  ⟨I.ok,I.os,I.bare,I.base,I.loc,I.cell,I.free,I.fG,fun p hp=>(List.mem_append.mp hp).elim (fun z=>I.pin p (List.mem_append_left _ z)) (h p),I.hok,I.len,I.hnd,I.tup⟩
theorem zM {N:List Str} (hN:N.Nodup) {i j:Nat} {x:Str} (a:N[i]?=some x) (b:N[j]?=some x):i=j:=by
  obtain ⟨h1,e1⟩:=List.getElem?_eq_some_iff.mp a
  obtain ⟨h2,e2⟩:=List.getElem?_eq_some_iff.mp b
  exact (List.getElem_inj hN).mp (e1.trans e2.symm)
theorem a2H {M:Model} {A:Around} {E:Value→Shared→Prop} {i:Nat} {x:Str} {v:V} {u:Value} {Q:Unit→Shared→Prop} (I:Inv X pins σ H s) (hN:X.N.Nodup) (hi:X.N[i]?=some x) (hx:Loc X.env.scope x) (r:RelV v u)
    (h:∀ s',Inv X pins (σ.set i (some v)) H s'→(∃ a,Heap.SameBut a s.heap s'.heap∧(a=X.env.locals∨X.env.cells.lookup x=some a))→Q () s') (hf:X.fn x=true∨X.env.scope.names.lookup x=some .local:=by first | exact .inl rfl | exact .inr rfl | assumption):wpAny M A (storeName X.env x u) Q E s:=by
  obtain ⟨m,hn,hl⟩:=id I.loc
  have hcls:(X.env.scope.kind == .class || (X.env.scope.kind == .module&&X.env.locals != X.env.globals))=false:=by rw [I.ok.kind];rfl
  have hiσ:i < σ.length:=by rw [I.len];exact (List.getElem?_eq_some_iff.mp hi).1
  have cne:=I.cne
  have tracked:∀ {a:Addr} {h':Heap},(∃ o,s.heap.get? a=some o∧H a=none)→Heap.SameBut a s.heap h'→nR X.prog X.w H h':=fun {a h'} ha hs b ob e=>by
    obtain ⟨_,_,hfree⟩:=ha
    refine (I.hok b ob e).stay (fun c w' hc q=>(hs.2 c ?_).trans q) (fun _ q=>q) fun _ _ q=>q
    rintro rfl
    rcases hc with rfl | hc
    · rw [hfree] at e;cases e
    · rw [hfree] at hc;cases hc
  rcases hx with hk | hk
  · refine wpAny_storeName_local hk hn (fun h' hn' hs=>?_) hcls
    obtain ⟨oL,_,_,hoL,_⟩:=id hn
    refine h _ ⟨I.ok,I.os,I.bare,⟨fun b o e n hb hx=>?_,fun b o e n hb hx=>?_,I.base.free,fun b o e hx=>?_,I.base.tups,I.base.d9,I.base.jO⟩,⟨_,hn',fun j y v' e1 e2 e3=>?_⟩,fun y c e=>?_,I.free,I.fG,fun p hp=>?_,tracked ⟨oL,hoL,I.free⟩ hs,by simpa using I.len,I.hnd,I.tup⟩ ⟨_,hs,.inl rfl⟩
    · exact (hs.2 b (Nat.ne_of_lt (Nat.lt_of_lt_of_le (Heap.lt_size e) I.ok.above))).trans (I.base.keep b o e n hb hx)
    · obtain ⟨sl,e1⟩:=I.base.slot b o e n hb hx
      exact ⟨sl,(hs.2 b (Nat.ne_of_lt (Nat.lt_of_lt_of_le (Heap.lt_size e) I.ok.above))).trans e1⟩
    · obtain ⟨o',e1⟩:=I.base.there b o e hx
      exact ⟨o',(hs.2 b (Nat.ne_of_lt (Nat.lt_of_lt_of_le (Heap.lt_size e) I.ok.above))).trans e1⟩
    · by_cases hj:j=i
      · subst hj
        rw [hi] at e1;cases e1
        rw [List.getElem?_set_self hiσ] at e2
        cases e2
        exact ⟨u,r,.inl ⟨hk,by simp⟩⟩
      · rw [List.getElem?_set_ne (Ne.symm hj)] at e2
        obtain ⟨u',r',q⟩:=hl j y v' e1 e2 e3
        refine ⟨u',r',?_⟩
        rcases q with ⟨k,e⟩ | ⟨k,c,e,z⟩
        · refine .inl ⟨k,?_⟩
          have:y≠x:=fun e=>hj (zM hN e1 (e ▸ hi))
          simp [this,e]
        · exact .inr ⟨k,c,e,z.sameBut hs (cne y c e)⟩
    · obtain ⟨w',z⟩:=I.cell y c e
      exact ⟨w',z.sameBut hs (cne y c e)⟩
    · obtain ⟨e,n,ne,nf,d⟩:=I.pin p hp
      exact ⟨(hs.2 p.1 ne).trans e,n,ne,nf,d⟩
  · have hfn:X.fn x=true:=by
      rcases hf with z | z
      · exact z
      · rw [z] at hk;cases hk
    obtain ⟨c,hc⟩:=I.ok.has x (.inl hk)
    obtain ⟨w',z⟩:=I.cell x c hc
    refine wpAny_storeName_cell I.ok.kind hk hc z (fun h' hc' hs=>?_)
    obtain ⟨oc,hoc,avJ⟩:=id z
    refine h { s with heap:=h' } ⟨I.ok,I.os,I.bare,⟨fun b o e n hb hx=>?_,fun b o e n hb hx=>?_,I.base.free,fun b o e hx=>?_,I.base.tups,I.base.d9,I.base.jO⟩,⟨m,hn.sameBut hs (Ne.symm (cne x c hc)),fun j y v' e1 e2 e3=>?_⟩,fun y c' e=>?_,I.free,I.fG,fun p hp=>?_,tracked ⟨oc,hoc,I.fG x c hc⟩ hs,by simpa using I.len,I.hnd,I.tup⟩ ⟨c,hs,.inr hc⟩
    · exact (hs.2 b (Nat.ne_of_lt (Nat.lt_of_lt_of_le (Heap.lt_size e) (I.ok.cab x c hfn hc)))).trans (I.base.keep b o e n hb hx)
    · obtain ⟨sl,e1⟩:=I.base.slot b o e n hb hx
      exact ⟨sl,(hs.2 b (Nat.ne_of_lt (Nat.lt_of_lt_of_le (Heap.lt_size e) (I.ok.cab x c hfn hc)))).trans e1⟩
    · obtain ⟨o',e1⟩:=I.base.there b o e hx
      exact ⟨o',(hs.2 b (Nat.ne_of_lt (Nat.lt_of_lt_of_le (Heap.lt_size e) (I.ok.cab x c hfn hc)))).trans e1⟩
    · by_cases hj:j=i
      · subst hj
        rw [hi] at e1;cases e1
        rw [List.getElem?_set_self hiσ] at e2
        cases e2
        exact ⟨u,r,.inr ⟨.inl hk,c,hc,hc'⟩⟩
      · rw [List.getElem?_set_ne (Ne.symm hj)] at e2
        obtain ⟨u',r',q⟩:=hl j y v' e1 e2 e3
        refine ⟨u',r',?_⟩
        rcases q with q | ⟨k,c',e,z'⟩
        · exact .inl q
        · refine .inr ⟨k,c',e,z'.sameBut hs ?_⟩
          rintro rfl
          exact hj (zM hN e1 (I.ok.inj _ _ _ e hc ▸ hi))
    · by_cases hcc:c'=c
      · subst hcc;exact ⟨_,hc'⟩
      · obtain ⟨w2,z2⟩:=I.cell y c' e
        exact ⟨w2,z2.sameBut hs hcc⟩
    · obtain ⟨e,n,ne,nf,d⟩:=I.pin p hp
      refine ⟨(hs.2 p.1 ?_).trans e,n,ne,nf,d⟩
      intro q
      rw [q,hoc] at e
      have q':oc=p.2:=Option.some.inj e
      exact d w' (by rw [← q'];exact avJ)
theorem v9 {M:Model} {A:Around} {E:Value→Shared→Prop} {i:Nat} {x:Str} {v:V} {u:Value} {Q:Unit→Shared→Prop} (I:Inv X pins σ H s) (hN:X.N.Nodup) (hi:X.N[i]?=some x) (hx:Loc X.env.scope x) (r:RelV v u)
    (h:∀ s',Inv X pins (σ.set i (some v)) H s'→Q () s') (hf:X.fn x=true∨X.env.scope.names.lookup x=some .local:=by first | exact .inl rfl | exact .inr rfl | assumption):wpAny M A (storeName X.env x u) Q E s :=
  a2H I hN hi hx r (fun s' I' _=>h s' I') hf
theorem Inv.call' {s':Shared} {ch:List Addr} (I:Inv X pins σ H s) (ho:s'.os=s.os) (u:Un (frs X.stack) ch H H' s.heap s'.heap) (hok:nR X.prog X.w H' s'.heap) (hg:AllBare s'.gens)
    (hch:∀ b∈ch,(b∈X.ex∨X.s₀.heap.objs.size≤b)∧b≠X.env.locals∧(∀ x c,X.env.cells.lookup x=some c→c≠b)∧∀ p∈X.pn++pins,p.1≠b):Inv X pins σ H' s':=by
  obtain ⟨h',g',d',t',o'⟩:=s'
  have e:o'=s.os:=ho
  subst e
  exact I.call (g':=g') (t':=t') (d':=d') u hok hg hch
end
abbrev XK:=Value→Option Addr→Hp→Prop
abbrev St:=List (Option V)
abbrev VK:=V→Hp→Prop
abbrev TE:=St→Hp→VK→Prop
abbrev TT:=St→Hp→(Bool→Hp→Prop)→Prop
abbrev TA:=St→Hp→(List V→Hp→Prop)→Prop
structure Ends where
  nx:St→Hp→Prop
  rt:VK
  bk:St→Hp→Prop:=fun _ _=>False
  ct:St→Hp→Prop:=fun _ _=>False
abbrev TS:=Ends→St→Hp→Prop
def EP (X:Cx) (pins:List (Addr×Obj)) (σ:St) (Q:VK) (u:Value) (s':Shared):Prop:=∃ v H',Inv X pins σ H' s'∧RelV v u∧Q v H'
def TP (X:Cx) (pins:List (Addr×Obj)) (σ:St) (Q:Bool→Hp→Prop) (b:Bool) (s':Shared):Prop:=∃ H',Inv X pins σ H' s'∧Q b H'
def AP (X:Cx) (pins:List (Addr×Obj)) (σ:St) (Q:List V→Hp→Prop) (us:List Value) (s':Shared):Prop:=∃ vs H',Inv X pins σ H' s'∧Vals vs us∧Q vs H'
def SP (X:Cx) (pins:List (Addr×Obj)) (D:Ends) (f:Flow) (s':Shared):Prop :=
  match f with
  | .next=>∃ σ' H',Inv X pins σ' H' s'∧D.nx σ' H'
  | .brk=>∃ σ' H',Inv X pins σ' H' s'∧D.bk σ' H'
  | .cont=>∃ σ' H',Inv X pins σ' H' s'∧D.ct σ' H'
  | .ret u=>∃ v σ' H',Inv X pins σ' H' s'∧RelV v u∧D.rt v H'
class Tk (b:Bool) (s:Shared):Prop where
  pos:b=true→0 < s.toks
class TkI (s:outParam Shared) (s':Shared):Prop where
  imp:0 < s.toks→0 < s'.toks
instance auM {b:Bool} {s s':Shared} [i:TkI s s'] [j:Tk b s]:Tk b s':=⟨fun z=>i.imp (j.pos z)⟩
instance ay9 {s:Shared}:Tk false s:=⟨fun z=>nomatch z⟩
instance auN {b:Bool} {h:Heap} {g:Array GenState} {d:Drawn} {n:Nat} {os}:Tk b ⟨h,g,d,n+1,os⟩:=⟨fun _=>Nat.succ_pos _⟩
instance auO {b:Bool} {s:Shared} {h:Heap} {g:Array GenState} {d:Drawn} {os} [j:Tk b s]:Tk b ⟨h,g,d,s.toks,os⟩:=⟨j.pos⟩
def PE (X:Cx) (e:Expr) (t:TE):Prop :=
  ∀ (pins:List (Addr×Obj)) (s:Shared) (σ:St) (H:Hp) (Q:VK),Inv X pins σ H s→t σ H Q→[Tk X.need s]→wpAny (model X.prog X.w) X.A (eval e X.env) (EP X pins σ Q) X.xe s
def PT (X:Cx) (e:Expr) (t:TT):Prop :=
  ∀ (pins:List (Addr×Obj)) (s:Shared) (σ:St) (H:Hp) (Q:Bool→Hp→Prop),Inv X pins σ H s→t σ H Q→[Tk X.need s]→wpAny (model X.prog X.w) X.A (isTrue e X.env (eval e X.env)) (TP X pins σ Q) X.xe s
def PW (X:Cx) (e:Expr) (t:TT):Prop :=
  ∀ (whole:Sem Value) (pins:List (Addr×Obj)) (s:Shared) (σ:St) (H:Hp) (Q:Bool→Hp→Prop),Inv X pins σ H s→t σ H Q→[Tk X.need s]→wpAny (model X.prog X.w) X.A (isTrue e X.env whole) (TP X pins σ Q) X.xe s
theorem PW.pt {X:Cx} {e:Expr} {t:TT} (h:PW X e t):PT X e t:=h _
def PA (X:Cx) (es:List Expr) (t:TA):Prop :=
  ∀ (pos:Pos) (pins:List (Addr×Obj)) (s:Shared) (σ:St) (H:Hp) (Q:List V→Hp→Prop),Inv X pins σ H s→t σ H Q→[Tk X.need s]→wpAny (model X.prog X.w) X.A (spliced (backTo pos (starEach es X.env))) (AP X pins σ Q) X.xe s
def PS (X:Cx) (st:Stmt) (t:TS):Prop :=
  ∀ (pins:List (Addr×Obj)) (s:Shared) (σ:St) (H:Hp) (D:Ends),Inv X pins σ H s→t D σ H→[Tk X.need s]→wpAny (model X.prog X.w) X.A (exec st X.env) (SP X pins D) X.xe s
def z8 (X:Cx) (st:List Stmt) (t:TS):Prop :=
  ∀ (pins:List (Addr×Obj)) (s:Shared) (σ:St) (H:Hp) (D:Ends),Inv X pins σ H s→t D σ H→[Tk X.need s]→wpAny (model X.prog X.w) X.A (execs st X.env) (SP X pins D) X.xe s
theorem cV {α:Type} {t:Sem α} {Q Q':α→Shared→Prop} {M:Model} {A:Around} {E:Value→Shared→Prop} {s:Shared} (h:wpAny M A t Q E s) (hQ:∀ a s1,Q a s1→[TkI s s1]→Q' a s1):wpAny M A t Q' E s:=fun Γ p g=>by
  by_cases c:0 < s.toks
  · exact Sem.wp_mono M Γ t (fun a p s' z=>@hQ a s' z.2 ⟨fun _=>z.1⟩) (fun _ _ _ z=>z.2) p s (Sem.wp_toks M Γ 1 t _ _ p s c (h Γ p g))
  · exact Sem.wp_mono M Γ t (fun a p s' z=>@hQ a s' z ⟨fun z=>absurd z c⟩) (fun _ _ _ z=>z) p s (h Γ p g)
end L2
namespace L2
open PySem PySem.Spec PyProof.Rows
section
variable {X:Cx}
theorem bin {a b:Expr} {ta tb:TE} (ha:PE X a ta) (hb:PE X b tb) {pins:List (Addr×Obj)} {s:Shared} {σ:St} {H:Hp} {R:V→V→Hp→Prop} [Tk X.need s] (I:Inv X pins σ H s) (h:ta σ H fun x H1=>tb σ H1 fun y H2=>R x y H2)
    {α:Type} {Q:α→Shared→Prop} {f:Value→Value→Sem α}
    (hf:∀ v u s2 x y H2,Inv X pins σ H2 s2→RelV x v→RelV y u→R x y H2→wpAny (model X.prog X.w) X.A (f v u) Q X.xe s2) :
    wpAny (model X.prog X.w) X.A (eval a X.env) (fun v s₁=>wpAny (model X.prog X.w) X.A (eval b X.env) (fun u s₂=>wpAny (model X.prog X.w) X.A (f v u) Q X.xe s₂) X.xe s₁) X.xe s:=by
  refine cV (ha pins s σ H _ I h) fun v s1 ⟨x,H1,I1,r1,q1⟩=>?_
  refine cV (hb pins s1 σ H1 _ I1 q1) fun u s2 ⟨y,H2,I2,r2,q2⟩=>?_
  exact hf v u s2 x y H2 I2 r1 r2 q2
def aq7 (i:Nat):TE:=fun σ H Q=>∃ v,σ[i]?=some (some v)∧Q v H
def tC (v:V):TE:=fun _ H Q=>Q v H
theorem acP {i:Nat} {x:Str} {pos:Pos} (hN:X.N[i]?=some x) (hv:Vis X.env.scope x) (hd:(x == ("__debug__" : Str))=false:=by decide) (hcd:(x == ("__classdict__" : Str))=false:=by decide):PE X (.Name x pos) (aq7 i):=by
  intro pins s σ H Q I h _tk
  obtain ⟨v,e,h⟩:=h
  obtain ⟨m,hn,hl⟩:=I.loc
  obtain ⟨u,r,l⟩:=hl i x v hN e hv
  have fin:EP X pins σ Q u s:=⟨v,H,I,r,h⟩
  rcases l with ⟨hk,hm⟩ | ⟨hk,c,hc,hcell⟩
  · exact wpAny_Name (wpAny_loadName_local I.ok.kind hk hn hm fin) hd
  · rcases hk with hk | hk
    · exact wpAny_Name (wpAny_loadName_cell I.ok.kind hk hc hcell fin) hd
    · exact wpAny_Name (wpAny_loadName_free I.ok.kind hk hc hcell fin hcd) hd
theorem alO {i j pos}:PE X (.Constant (.int i) j pos) (tC (.int i)):=fun _ _ _ H _ I h=>wpAny_Constant_int ⟨.int i,H,I.tok _,⟨_,rfl⟩,h⟩
theorem aq8 {b j pos}:PE X (.Constant (.bool b) j pos) (tC (.bl b)):=fun _ _ _ H _ I h=>Constant_bool ⟨.bl b,H,I,rfl,h⟩
theorem alP {j pos}:PE X (.Constant .none j pos) (tC .non):=fun _ _ _ H _ I h=>Constant_none ⟨.non,H,I,rfl,h⟩
theorem alQ {x j pos}:PE X (.Constant (.str x) j pos) (tC (.str x)):=fun _ _ _ H _ I h=>Calls.Constant_str ⟨.str x,H,I.tok _,⟨_,rfl⟩,h⟩
def Gl (X:Cx) (x:Str):Prop:=X.env.kindOf x=some .globalImplicit
theorem fU {E:Value→Shared→Prop} {pins:List (Addr×Obj)} {s:Shared} {σ:St} {H:Hp} {x:Str} {u:Value} {pos:Pos} {Q:Value→Shared→Prop} (I:Inv X pins σ H s) (hg:Gl X x) (hm:X.mg x=some u) (h:Q u s)
    (hd:(x == ("__debug__" : Str))=false:=by decide):wpAny (model X.prog X.w) X.A (eval (.Name x pos) X.env) Q E s :=
  Calls.Name_function_global I.ok.kind hg (Calls.loadGlobal_global (by rw [I.ok.glob];exact I.mod.glob.keeps I.bk) hm h) hd
theorem a3S {E:Value→Shared→Prop} {pins:List (Addr×Obj)} {s:Shared} {σ:St} {H:Hp} {x:Str} {u:Value} {pos:Pos} {Q:Value→Shared→Prop} (I:Inv X pins σ H s) (hg:Gl X x) (hm:X.mg x=none) (hv:bootBuiltins x=some u) (h:Q u s)
    (hn:x ≠ "__name__" := by decide) (hd:(x == ("__debug__" : Str))=false:=by decide):wpAny (model X.prog X.w) X.A (eval (.Name x pos) X.env) Q E s:=by
  obtain ⟨mb,h1,h2⟩:=I.mod.blt
  exact Calls.Name_function_global I.ok.kind hg (Calls.loadGlobal_builtin (by rw [I.ok.glob];exact I.mod.glob.keeps I.bk) hm (by rw [I.ok.blt];exact h1.keeps I.bk) ((h2 x hn).trans hv) h) hd
theorem agQ {x:Str} {v:V} {u:Value} {pos:Pos} (hg:Gl X x) (hm:X.mg x=some u) (r:RelV v u) (hd:(x == ("__debug__" : Str))=false:=by decide):PE X (.Name x pos) (tC v) :=
  fun _ _ _ H _ I h=>fU I hg hm ⟨v,H,I,r,h⟩ hd
theorem agR {x:Str} {v:V} {u:Value} {pos:Pos} (hg:Gl X x) (hm:X.mg x=none) (hv:bootBuiltins x=some u) (r:RelV v u) (hn:x ≠ "__name__" := by decide) (hd:(x == ("__debug__" : Str))=false:=by decide):PE X (.Name x pos) (tC v) :=
  fun _ _ _ H _ I h=>a3S I hg hm hv ⟨v,H,I,r,h⟩ hn hd
variable {a b:Expr} {ta tb:TE} {pos:Pos}
def PC (X:Cx) (op:CmpOp) (a b:Expr) (t:TE):Prop :=
  ∀ (pins:List (Addr×Obj)) (s:Shared) (σ:St) (H:Hp) (Q:VK),Inv X pins σ H s→t σ H Q →
    [Tk X.need s]→wpAny (model X.prog X.w) X.A (eval a X.env) (fun v s₁=>wpAny (model X.prog X.w) X.A (eval b X.env) (fun u s₂=>wpAny (model X.prog X.w) X.A (compareOp op v u) (EP X pins σ Q) X.xe s₂) X.xe s₁) X.xe s
theorem acQ (b:Expr) {op:CmpOp} (h:op ≠ .In) (h2:op ≠ .NotIn):behindInMarks op b=false:=by
  have e1:(op == CmpOp.In)=false:=by cases op <;> first | rfl | exact absurd rfl h
  have e2:(op == CmpOp.NotIn)=false:=by cases op <;> first | rfl | exact absurd rfl h2
  cases b <;> simp [behindInMarks,e1,e2]
def tB (t:TE):TT:=fun σ H Q=>t σ H fun x H1=>∃ c,x = .bl c∧Q c H1
theorem avL {op:CmpOp} {t:TE} (h:PC X op a b t) (h1:behindInMarks op b=false:=by first | exact acQ _ (by decide) (by decide) | rfl):PT X (.Compare a [op] [b] pos) (tB t):=by
  intro pins s σ H Q I hw
  refine wpAny_isTrue_Compare1 (cV (h pins s σ H _ I hw) fun v s1 h1=>cV h1 fun u s2 h2=>cV h2 fun c s3 ⟨x,H1,I1,r1,q1⟩=>?_) h1
  obtain ⟨d,rfl,q⟩:=q1
  cases r1
  exact wpAny_truthy_bool ⟨H1,I1,q⟩
theorem alR {e:Expr} {t:TE} (h:PE X e t) (he:∀ whole,isTrue e X.env whole=(do let v ← whole;standAt e.pos;holding [v] (truthy v)):=by intro _;rfl):PT X e (tB t):=by
  intro pins s σ H Q I hw
  refine isTrue_plain (cV (h pins s σ H _ I hw) fun v s1 ⟨x,H1,I1,r1,q1⟩=>?_) (he _)
  obtain ⟨d,rfl,q⟩:=q1
  cases r1
  exact wpAny_truthy_bool ⟨H1,I1,q⟩
variable {tA tB':TT} {rest:List Expr}
def aq9 (t u:TT):TT:=fun σ H Q=>t σ H fun c H1=>if c=true then u σ H1 Q else Q false H1
def tOr (t u:TT):TT:=fun σ H Q=>t σ H fun c H1=>if c=true then Q true H1 else u σ H1 Q
def avM (t:TT):TT:=fun σ H Q=>t σ H fun c H1=>Q (!c) H1
theorem agS (ha:PT X a tA):PW X (.BoolOp .And [a] pos) tA:=by
  intro wh pins s σ H Q I h
  refine isTrue_and (cV (ha pins s σ H Q I h) fun c s1 e=>?_)
  intro aqA
  cases c with
  | true=>exact isTrue_and_nil e
  | false=>exact e
theorem alS (ha:PT X a tA):PW X (.BoolOp .Or [a] pos) tA:=by
  intro wh pins s σ H Q I h
  refine isTrue_or (cV (ha pins s σ H Q I h) fun c s1 e=>?_)
  intro azM
  cases c with
  | false=>exact isTrue_or_nil e
  | true=>exact e
theorem alT (ha:PT X a tA) (hb:PW X (.BoolOp .And (b :: rest) pos) tB'):PW X (.BoolOp .And (a :: b :: rest) pos) (aq9 tA tB'):=by
  intro wh pins s σ H Q I h
  refine isTrue_and (cV (ha pins s σ H _ I h) fun c s1 ⟨H1,I1,q1⟩=>?_)
  cases c with
  | true=>exact hb wh pins s1 σ H1 Q I1 q1
  | false=>exact ⟨H1,I1,q1⟩
theorem aqB (ha:PT X a tA) (hb:PW X (.BoolOp .Or (b :: rest) pos) tB'):PW X (.BoolOp .Or (a :: b :: rest) pos) (tOr tA tB'):=by
  intro wh pins s σ H Q I h
  refine isTrue_or (cV (ha pins s σ H _ I h) fun c s1 ⟨H1,I1,q1⟩=>?_)
  cases c with
  | true=>exact ⟨H1,I1,q1⟩
  | false=>exact hb wh pins s1 σ H1 Q I1 q1
theorem alU (ha:PT X a tA):PT X (.UnaryOp .Not a pos) (avM tA):=by
  intro pins s σ H Q I h _tk
  exact isTrue_not (ha pins s σ H (fun c H1=>Q (!c) H1) I h)
def aqC (ta tb:TE):TE:=fun σ H Q=>ta σ H fun x H1=>∃ c,x = .bl c∧if c=true then tb σ H1 Q else Q (.bl false) H1
def avN (ta tb:TE):TE:=fun σ H Q=>ta σ H fun x H1=>∃ c,x = .bl c∧if c=true then Q (.bl true) H1 else tb σ H1 Q
def aqD (ta:TE):TE:=fun σ H Q=>ta σ H fun x H1=>∃ c,x = .bl c∧Q (.bl (!c)) H1
theorem alV {op} {t:TE} (h:PE X a t):PE X (.BoolOp op [a] pos) t:=fun pins s σ H Q I hw=>BoolOp_one (h pins s σ H Q I hw)
theorem alW (ha:PE X a ta) (hb:PE X (.BoolOp .And (b :: rest) pos) tb):PE X (.BoolOp .And (a :: b :: rest) pos) (aqC ta tb):=by
  intro pins s σ H Q I h _tk
  refine BoolOp_and (cV (ha pins s σ H _ I h) fun v s1 ⟨x,H1,I1,r1,q1⟩=>?_)
  obtain ⟨c,rfl,q1⟩:=q1
  cases r1
  refine wpAny_truthy_bool ?_
  cases c with
  | true=>exact hb pins s1 σ H1 Q I1 q1
  | false=>exact ⟨.bl false,H1,I1,rfl,q1⟩
theorem aqE (ha:PE X a ta) (hb:PE X (.BoolOp .Or (b :: rest) pos) tb):PE X (.BoolOp .Or (a :: b :: rest) pos) (avN ta tb):=by
  intro pins s σ H Q I h _tk
  refine BoolOp_or (cV (ha pins s σ H _ I h) fun v s1 ⟨x,H1,I1,r1,q1⟩=>?_)
  obtain ⟨c,rfl,q1⟩:=q1
  cases r1
  refine wpAny_truthy_bool ?_
  cases c with
  | false=>exact hb pins s1 σ H1 Q I1 q1
  | true=>exact ⟨.bl true,H1,I1,rfl,q1⟩
theorem alX (ha:PE X a ta):PE X (.UnaryOp .Not a pos) (aqD ta):=by
  intro pins s σ H Q I h _tk
  refine UnaryOp_ (cV (ha pins s σ H _ I h) fun v s1 ⟨x,H1,I1,r1,q1⟩=>?_)
  obtain ⟨c,rfl,q1⟩:=q1
  cases r1
  exact not_of (wpAny_truthy_bool ⟨.bl (!c),H1,I1,rfl,q1⟩)
def tIf (t:TT) (ta tb:TE):TE:=fun σ H Q=>t σ H fun c H1=>if c=true then ta σ H1 Q else tb σ H1 Q
theorem acR {c:Expr} (hc:PT X c tA) (ha:PE X a ta) (hb:PE X b tb):PE X (.IfExp c a b pos) (tIf tA ta tb):=by
  intro pins s σ H Q I h _tk
  refine wpAny_IfExp (cV (hc pins s σ H _ I h) fun d s1 ⟨H1,I1,q1⟩=>?_)
  cases d with
  | true=>exact ha pins s1 σ H1 Q I1 q1
  | false=>exact hb pins s1 σ H1 Q I1 q1
end
end L2
namespace L2
open PySem PySem.Spec PyProof.Rows
def tX (K:PySem.W.Frag) (H:Hp) (a:Addr) (xs:List V):Prop :=
  Rd H a (.lst xs) ∨
    ∃ (o:Obj) (its:Array Value) (n:Nat),K.lookup a=some o∧o.cls = .type "list" ∧ o.dict=none∧o.data = .seq its n∧its.size≤sizeLine∧Vals xs its.toList
def rD (K:PySem.W.Frag) (H:Hp) (a:Addr) (xs:List V):Prop :=
  Rd H a (.tup xs) ∨
    ∃ (o:Obj) (its:Array Value) (n:Nat),K.lookup a=some o∧o.cls = .type "tuple" ∧ o.dict=none∧o.data = .seq its n∧its.size≤sizeLine∧Vals xs its.toList
def avO:Value→Option V
  | .none=>some .non
  | .bool b=>some (.bl b)
  | .int i _=>some (.int i)
  | .str x _=>some (.str x)
  | .bytes b _=>some (.byt b)
  | .float b _=>some (.flt b)
  | .ref a=>some (.ref a)
  | .type n=>some (.ty n)
  | _=>none
theorem RelV.abs {x:V} {u:Value} (r:RelV x u):avO u=some x:=by
  cases x with
  | non=>cases r;rfl
  | bl _=>cases r;rfl
  | int _=>obtain ⟨t,rfl⟩:=r;rfl
  | str _=>obtain ⟨t,rfl⟩:=r;rfl
  | byt _=>obtain ⟨t,rfl⟩:=r;rfl
  | flt _=>obtain ⟨t,rfl⟩:=r;rfl
  | ref _=>cases r;rfl
  | ty _=>cases r;rfl
theorem RelV.inj {x y:V} {u:Value} (r:RelV x u) (q:RelV y u):x=y:=Option.some.inj (r.abs.symm.trans q.abs)
theorem Vals.inj:∀ {xs ys:List V} {us:List Value},Vals xs us→Vals ys us→xs=ys
  | _,_,_,.nil,.nil=>rfl
  | _,_,_,.cons r t,.cons r' t'=>by rw [r.inj r',Vals.inj t t']
section
variable {X:Cx} {pins:List (Addr×Obj)} {σ:St} {H:Hp} {s:Shared} {a:Addr} {xs ys:List V}
theorem tX.of {K:PySem.W.Frag} (h:H a=some (.lst xs)):tX K H a xs := .inl (.inl h)
theorem rD.of {K:PySem.W.Frag} (h:H a=some (.tup xs)):rD K H a xs := .inl (.inl h)
theorem Inv.list (I:Inv X pins σ H s) (h:tX X.K H a xs):∃ its:List Value,Vals xs its∧PlainL s.heap a its.toArray∧xs.length≤sizeLine:=by
  rcases h with h | ⟨o,its,n,hk,hc,hd,hs,hz,r⟩
  · obtain ⟨z,its,n,r,e⟩:=h.ok I.hok
    exact ⟨its,r,⟨_,n,e,rfl,rfl,rfl⟩,z⟩
  · refine ⟨its.toList,r,⟨o,n,I.xV a o hk,hc,hd,by simpa using hs⟩,?_⟩
    have e:=r.length
    simp only [Array.length_toList] at e
    omega
theorem Inv.tuple (I:Inv X pins σ H s) (h:rD X.K H a xs):∃ its:List Value,Vals xs its∧IsTup s.heap a its.toArray∧xs.length≤sizeLine:=by
  rcases h with h | ⟨o,its,n,hk,hc,hd,hs,hz,r⟩
  · obtain ⟨z,its,r,p⟩:=h.ok I.hok
    exact ⟨its,r,p,z⟩
  · refine ⟨its.toList,r,⟨o,I.xV a o hk,hc,n,by simpa using hs⟩,?_⟩
    have e:=r.length
    simp only [Array.length_toList] at e
    omega
theorem Inv.acS (I:Inv X pins σ H s) (h:tX X.K H a xs) (h':tX X.K H a ys):xs=ys:=by
  obtain ⟨its,r,⟨o,n,e,_,_,d⟩,_⟩:=I.list h
  obtain ⟨its',r',⟨o',n',e',_,_,d'⟩,_⟩:=I.list h'
  rw [e] at e';cases e'
  rw [d] at d'
  injection d' with d1 _
  have:its=its':=by simpa using congrArg Array.toList d1
  subst this
  exact r.inj r'
theorem Inv.wN (I:Inv X pins σ H s) (h:rD X.K H a xs) (h':rD X.K H a ys):xs=ys:=by
  obtain ⟨its,r,⟨o,e,_,n,d⟩,_⟩:=I.tuple h
  obtain ⟨its',r',⟨o',e',_,n',d'⟩,_⟩:=I.tuple h'
  rw [e] at e';cases e'
  rw [d] at d'
  injection d' with d1 _
  have:its=its':=by simpa using congrArg Array.toList d1
  subst this
  exact r.inj r'
end
abbrev Cx.wish (X:Cx) (E:Value→Shared→Prop):Cx:={ X with xe:=E }
abbrev Cx.nox (X:Cx):Cx:=X.wish fun _ _=>False
theorem Cx.Ok.wish {X:Cx} (ok:X.Ok) (E:Value→Shared→Prop):(X.wish E).Ok :=
  ⟨ok.mod,ok.kind,ok.glob,ok.blt,ok.above,ok.inj,ok.has,ok.cab,ok.hd,ok.frames,ok.stk,ok.exf,ok.bs,ok.bsz,ok.yO,ok.zL,ok.lK,ok.frf⟩
theorem Cx.Ok.nU {X:Cx} {E:Value→Shared→Prop} (ok:(X.wish E).Ok):X.Ok :=
  ⟨ok.mod,ok.kind,ok.glob,ok.blt,ok.above,ok.inj,ok.has,ok.cab,ok.hd,ok.frames,ok.stk,ok.exf,ok.bs,ok.bsz,ok.yO,ok.zL,ok.lK,ok.frf⟩
section
variable {X:Cx} {pins:List (Addr×Obj)} {σ:St} {H:Hp} {s:Shared} {E:Value→Shared→Prop}
theorem Inv.wish (I:Inv X pins σ H s) (E:Value→Shared→Prop):Inv (X.wish E) pins σ H s:=⟨I.ok.wish E,I.os,I.bare,I.base,I.loc,I.cell,I.free,I.fG,I.pin,I.hok,I.len,I.hnd,I.tup⟩
theorem Inv.nU (I:Inv (X.wish E) pins σ H s):Inv X pins σ H s:=⟨I.ok.nU,I.os,I.bare,I.base,I.loc,I.cell,I.free,I.fG,I.pin,I.hok,I.len,I.hnd,I.tup⟩
theorem SP.nU {D:Ends} {f:Flow} {s':Shared} (h:SP (X.wish E) pins D f s'):SP X pins D f s':=by
  cases f with
  | next=>obtain ⟨σ',H',I,q⟩:=h;exact ⟨σ',H',I.nU,q⟩
  | brk=>obtain ⟨σ',H',I,q⟩:=h;exact ⟨σ',H',I.nU,q⟩
  | cont=>obtain ⟨σ',H',I,q⟩:=h;exact ⟨σ',H',I.nU,q⟩
  | ret u=>obtain ⟨v,σ',H',I,r,q⟩:=h;exact ⟨v,σ',H',I.nU,r,q⟩
theorem PE.nox {e:Expr} {t:TE} (h:PE X.nox e t):PE X e t:=fun pins s σ H Q I hw =>
  wpAny_mono (h pins s σ H Q (I.wish _) hw) (fun _ _ ⟨v,H',I',r,q⟩=>⟨v,H',I'.nU,r,q⟩) fun _ _ z=>False.elim z
theorem PT.nox {e:Expr} {t:TT} (h:PT X.nox e t):PT X e t:=fun pins s σ H Q I hw =>
  wpAny_mono (h pins s σ H Q (I.wish _) hw) (fun _ _ ⟨H',I',q⟩=>⟨H',I'.nU,q⟩) fun _ _ z=>False.elim z
theorem z8.nox {st:List Stmt} {t:TS} (h:z8 X.nox st t):z8 X st t:=fun pins s σ H D I hw =>
  wpAny_mono (h pins s σ H D (I.wish _) hw) (fun _ _ q=>q.nU) fun _ _ z=>False.elim z
end
section
variable {X:Cx} {st:Stmt} {rest:List Stmt} {t u:TS} {e:Expr} {te:TE} {pos:Pos}
def akA:TS:=fun D σ H=>D.nx σ H
def alY (t u:TS):TS:=fun D σ H=>t { D with nx:=u D } σ H
theorem agT:z8 X [] akA:=fun _ _ σ H _ I h=>wpAny_execs_nil ⟨σ,H,I,h⟩
theorem acT (h1:PS X st t) (h2:z8 X rest u):z8 X (st :: rest) (alY t u):=by
  intro pins s σ H D I h _tk
  refine wpAny_execs_cons (cV (h1 pins s σ H { D with nx:=u D } I h) fun f s1 q=>?_)
  intro azO
  cases f with
  | next =>
    obtain ⟨σ',H',I',q⟩:=q
    exact h2 pins s1 σ' H' D I' q
  | ret v=>exact q
  | brk=>exact q
  | cont=>exact q
theorem a97 (h1:PS X st t):z8 X [st] t:=by
  intro pins s σ H D I h _tk
  refine wpAny_execs_cons (cV (h1 pins s σ H D I h) fun f s1 q=>?_)
  intro azP
  cases f with
  | next=>exact wpAny_execs_nil q
  | ret v=>exact q
  | brk=>exact q
  | cont=>exact q
theorem agU:PS X (.Pass pos) akA:=fun _ _ σ H _ I h=>wpAny_Pass ⟨σ,H,I,h⟩
theorem Inv.quiet {pins:List (Addr×Obj)} {σ:St} {H:Hp} {s:Shared} (I:Inv X pins σ H s):interactive X.env=false:=by simp [interactive,I.ok.kind]
def aqF (te:TE):TS:=fun D σ H=>te σ H fun _ H1=>D.nx σ H1
theorem agV (he:PE X e te) (hs:swapsWith e none pos.line X.env=pure false:=by rfl):PS X (.Expr e pos) (aqF te):=by
  intro pins s σ H D I h _tk
  exact wpAny_Expr_any (cV (he pins s σ H _ I h) fun v s1 ⟨x,H1,I1,r1,q1⟩=>⟨σ,H1,I1,q1⟩) I.quiet hs
def avP (te:TE):TS:=fun D σ H=>te σ H D.rt
theorem alZ (he:PE X e te):PS X (.Return (some e) pos) (avP te):=by
  intro pins s σ H D I h _tk
  exact wpAny_Return_some (cV (he pins s σ H _ I h) fun v s1 ⟨x,H1,I1,r1,q1⟩=>⟨x,σ,H1,I1,r1,q1⟩)
def avQ (c:TT) (t u:TS):TS:=fun D σ H=>c σ H fun b H1=>if b=true then t D σ H1 else u D σ H1
theorem aqG {c:Expr} {a b:List Stmt} {tc:TT} (hc:PT X c tc) (ha:z8 X a t) (hb:z8 X b u):PS X (.If c a b pos) (avQ tc t u):=by
  intro pins s σ H D I h _tk
  refine wpAny_If (cV (hc pins s σ H _ I h) fun d s1 ⟨H1,I1,q1⟩=>?_)
  cases d with
  | true=>exact ha pins s1 σ H1 D I1 q1
  | false=>exact hb pins s1 σ H1 D I1 q1
end
abbrev TG:=V→St→Hp→(St→Hp→Prop)→Prop
abbrev TGs:=List V→St→Hp→(St→Hp→Prop)→Prop
def PG (X:Cx) (target:Expr) (t:TG):Prop :=
  ∀ (pins:List (Addr×Obj)) (s:Shared) (σ:St) (H:Hp) (v:V) (u:Value) (Q:St→Hp→Prop),Inv X pins σ H s→RelV v u→t v σ H Q →
    [Tk X.need s]→wpAny (model X.prog X.w) X.A (assign target X.env u) (fun _ s'=>∃ σ' H',Inv X pins σ' H' s'∧Q σ' H') X.xe s
def PGs (X:Cx) (ts:List Expr) (t:TGs):Prop :=
  ∀ (pins:List (Addr×Obj)) (s:Shared) (σ:St) (H:Hp) (vs:List V) (us:List Value) (Q:St→Hp→Prop),Inv X pins σ H s→Vals vs us→t vs σ H Q →
    [Tk X.need s]→wpAny (model X.prog X.w) X.A (assignInOrder ((assignEach ts X.env).map (·.2)) us) (fun _ s'=>∃ σ' H',Inv X pins σ' H' s'∧Q σ' H') X.xe s
section
variable {X:Cx} {pos:Pos}
def a98 (i:Nat):TG:=fun v σ H Q=>Q (σ.set i (some v)) H
theorem a3T {i:Nat} {x:Str} (hN:X.N.Nodup) (hi:X.N[i]?=some x) (hx:Loc X.env.scope x) (hf:X.fn x=true∨X.env.scope.names.lookup x=some .local:=by first | exact .inl rfl | exact .inr rfl | assumption):PG X (.Name x pos) (a98 i):=by
  intro pins s σ H v u Q I r h
  exact wpAny_assign_Name (v9 I hN hi hx r (fun s' I'=>⟨_,H,I',h⟩) hf)
def aqI:TGs:=fun vs σ H Q=>vs=[]∧Q σ H
def akC (t:TG) (u:TGs):TGs:=fun vs σ H Q=>∃ v r,vs=v :: r∧t v σ H fun σ' H'=>u r σ' H' Q
theorem agW:PGs X [] aqI:=by
  intro pins s σ H vs us Q I r h
  obtain ⟨e,h⟩:=h
  subst e
  cases r
  exact assignInOrder_nil ⟨σ,H,I,h⟩
theorem acU {e:Expr} {es:List Expr} {t:TG} {u:TGs} (h1:PG X e t) (h2:PGs X es u)
    (hs:(assignEach (e :: es) X.env).map (·.2)=assign e X.env :: (assignEach es X.env).map (·.2):=by rfl):PGs X (e :: es) (akC t u):=by
  intro pins s σ H vs us Q I r h
  obtain ⟨v,vr,e1,h⟩:=h
  subst e1
  cases r with
  | cons r rr =>
    rw [hs]
    refine assignInOrder_cons (cV (h1 pins s σ H _ _ _ I r h) fun _ s1 ⟨σ1,H1,I1,q1⟩=>?_)
    exact h2 pins s1 σ1 H1 _ _ Q I1 rr q1
def avR (K:PySem.W.Frag) (n:Nat) (t:TGs):TG:=fun v σ H Q=>∃ a xs,v = .ref a∧rD K H a xs∧xs.length=n∧t xs σ H Q
theorem acV {es:List Expr} {k:Nat} {t:TGs} {n:Nat} (hc:X.calm=true) (h:PGs X es t)
    (hn:(assignEach es X.env).length=n:=by rfl) (hst:(assignEach es X.env).findIdx? (·.1)=none:=by rfl):PG X (.Tuple es k pos) (avR X.K n t):=by
  intro pins s σ H v u Q I r hw
  obtain ⟨a,xs,e1,hq,hl,hw⟩:=hw
  subst e1
  cases r
  obtain ⟨its,rv,ht,hz⟩:=I.tuple hq
  refine assign_Tuple_tuple (I.ok.hd hc) ht (by simp [hn,← hl,rv.length]) hst fun h' hx=>?_
  have I1:Inv X pins σ H { s with heap:=h' }:=I.kept (t':=s.toks) fun b o e=>hx b o (Nat.ne_of_lt (Heap.lt_size e)) e
  exact h pins _ σ H xs _ Q I1 (by simpa using rv) hw
def avS (te:TE) (g:TG):TS:=fun D σ H=>te σ H fun x H1=>g x σ H1 D.nx
theorem am0 {i:Nat} {x:Str} {e:Expr} {te:TE} {pos':Pos} (hN:X.N.Nodup) (hi:X.N[i]?=some x) (hx:Loc X.env.scope x) (he:PE X e te) (hs:swapsWith e (some (.Name x pos')) pos.line X.env=pure false:=by rfl) (hf:X.fn x=true∨X.env.scope.names.lookup x=some .local:=by first | exact .inl rfl | exact .inr rfl | assumption) :
    PS X (.Assign [.Name x pos'] e pos) (avS te (a98 i)):=by
  intro pins s σ H D I h _tk
  refine wpAny_Assign_Name (cV (he pins s σ H _ I h) fun v s1 ⟨y,H1,I1,r1,q1⟩=>?_) hs
  exact v9 I1 hN hi hx r1 (fun s2 I2=>⟨_,H1,I2,q1⟩) hf
end
section
variable {X:Cx} {pos:Pos}
end
structure It where
  go:Nat→Hp→Prop
  yld:Nat→Hp→V→Hp→Prop
  stop:Nat→Hp→Prop
def yP (X:Cx) (pins:List (Addr×Obj)) (H:Hp) (b:Addr):Prop :=
  H b=none∧b≠X.env.locals∧b ∉ X.fs∧(b∈X.ex∨X.s₀.heap.objs.size≤b)∧(∀ x c,X.env.cells.lookup x=some c→c≠b)∧∀ p∈X.pn++pins,p.1≠b
theorem Inv.a3U {X:Cx} {pins:List (Addr×Obj)} {σ:St} {H H':Hp} {s:Shared} {b:Addr} (I:Inv X pins σ H s) (hb:s.heap.objs.size≤b) (hn:H' b=none):yP X pins H' b:=by
  refine ⟨hn,Nat.ne_of_gt (Nat.lt_of_lt_of_le I.lt hb),I.avI hb,.inr (Nat.le_trans I.sz hb),fun x c e z=>?_,fun p hp z=>?_⟩
  · obtain ⟨v,q⟩:=I.cell x c e
    exact absurd (Nat.lt_of_lt_of_le q.lt (by rw [z];exact hb)) (Nat.lt_irrefl _)
  · exact absurd (Nat.lt_of_lt_of_le (Heap.lt_size (I.pin p hp).1) (by rw [z];exact hb)) (Nat.lt_irrefl _)
structure Turn (cm:Bool) (tl:List (Addr×List V)) (P:Program) (w:World) (K:PySem.W.Frag) (tg:Expr) (J:It) (fp:List Addr) (it:Addr) (tn:Nat→Heap→Prop):Prop where
  mem:it∈fp
  obj:∀ i h,tn i h→∀ b∈fp,∃ o,h.get? b=some o∧∀ v,o.data ≠ .cell v
  keep:∀ i h h',tn i h→(∀ b∈fp,∀ o,h.get? b=some o→h'.get? b=some o)→tn i h'
  item:∀ (X:Cx),X.prog=P→X.w=w→X.K=K→(cm=true→X.calm=true)→(∀ p∈tl,p∈X.tp)→∀ (i:Nat) (pins:List (Addr×Obj)) (s:Shared) (σ:St) (H:Hp) (E:Value→Shared→Prop),Inv X pins σ H s→(∀ b∈fp,yP X pins H b)→tn i s.heap→J.go i H →
    wpAny (model P w) X.A (pyNext (.ref it)) (fun r s1=>∃ u,r=some u ∧
      wpAny (model P w) X.A (letOwnedTupleGo tg (.ref it) u) (fun _ s2=>∃ x H',Inv X pins σ H' s2∧RelV x u∧J.yld i H x H'∧tn (i+1) s2.heap∧∀ b∈fp,H' b=none) E s1) E s
  done:∀ (X:Cx),X.prog=P→X.w=w→X.K=K→(cm=true→X.calm=true)→(∀ p∈tl,p∈X.tp)→∀ (i:Nat) (pins:List (Addr×Obj)) (s:Shared) (σ:St) (H:Hp) (E:Value→Shared→Prop),Inv X pins σ H s→(∀ b∈fp,yP X pins H b)→tn i s.heap→J.stop i H →
    wpAny (model P w) X.A (pyNext (.ref it)) (fun r s1=>r=none∧Inv X pins σ H s1) E s
  self:∀ (A:Around) (i:Nat) (s:Shared) (Q:Value→Shared→Prop) (E:Value→Shared→Prop),tn i s.heap→Q (.ref it) s→wpAny (model P w) A (pyIter (.ref it)) Q E s
abbrev TI:=St→Hp→(It→Hp→Prop)→Prop
def PIE (X:Cx) (pins:List (Addr×Obj)) (σ:St) (tg:Expr) (R:It→Hp→Prop) (itv:Value) (s2:Shared):Prop :=
  ∃ (it:Addr) (fp:List Addr) (tn:Nat→Heap→Prop) (J:It) (H':Hp),itv = .ref it∧Inv X pins σ H' s2∧Turn X.calm X.tp X.prog X.w X.K tg J fp it tn∧tn 0 s2.heap∧(∀ b∈fp,yP X pins H' b)∧R J H'
def PI (X:Cx) (tg iter:Expr) (wi:TI):Prop :=
  ∀ (pins:List (Addr×Obj)) (s:Shared) (σ:St) (H:Hp) (R:It→Hp→Prop),Inv X pins σ H s→wi σ H R →
    [Tk X.need s]→wpAny (model X.prog X.w) X.A (eval iter X.env) (fun v s1=>wpAny (model X.prog X.w) X.A (pyIter v) (PIE X pins σ tg R) X.xe s1) X.xe s
theorem a5Z {M:Model} {A:Around} {E:Value→Shared→Prop} {s:Shared} {tg:Expr} {it:Addr} {u:Value} {o:Obj} {n:String} {vs:Array Value} {Q:Unit→Shared→Prop} (ho:s.heap.get? it=some o) (hc:o.cls = .type n) (hd:o.data = .fields vs)
    (hn:["enumerate", "zip", "dict_itemiterator", "dict_reverseitemiterator", "odict_iterator", "itertools.zip_longest", "itertools.pairwise"].contains n=false) (hQ:Q () s):wpAny M A (letOwnedTupleGo tg (.ref it) u) Q E s:=by
  unfold letOwnedTupleGo
  cases tg <;> first
    | exact wpAny_pure hQ
    | (cases u <;> first
        | exact wpAny_pure hQ
        | (refine wpAny_bind (wpAny_load ho ?_)
           rw [hc,hd]
           show wpAny M A (if (["enumerate", "zip", "dict_itemiterator", "dict_reverseitemiterator", "odict_iterator", "itertools.zip_longest", "itertools.pairwise"].contains n&&vs[0]? == some (rawInt _))=true then _ else _) Q E s
           rw [if_neg (by intro h;rw [hn,Bool.false_and] at h;cases h)]
           exact wpAny_pure hQ))
def Itl (K:PySem.W.Frag) (a:Addr):It :=
  ⟨fun i H=>∃ xs x,tX K H a xs∧xs[i]?=some x,fun i H x H'=>H'=H∧∀ xs,tX K H a xs→xs[i]?=some x,fun i H=>∃ xs,tX K H a xs∧xs.length≤i⟩
def Itt (K:PySem.W.Frag) (a:Addr):It :=
  ⟨fun i H=>∃ xs x,rD K H a xs∧xs[i]?=some x,fun i H x H'=>H'=H∧∀ xs,rD K H a xs→xs[i]?=some x,fun i H=>∃ xs,rD K H a xs∧xs.length≤i⟩
def Itr (lo:Int) (n:Nat):It:=⟨fun i _=>i < n,fun i H x H'=>H'=H∧x = .int (lo+i),fun i _=>n≤i⟩
theorem a2I {cm:Bool} {tl:List (Addr×List V)} {P:Program} {w:World} {K:PySem.W.Frag} {tg:Expr} (a it:Addr):Turn cm tl P w K tg (Itl K a) [it] it (fun i h=>h.IsListIter it a i) where
  mem:=by simp
  obj:=fun i h st b hb=>by
    have e:b=it:=by simpa using hb
    subst e
    obtain ⟨o,e,c,d⟩:=st
    exact ⟨o,e,fun v z=>by rw [d] at z;cases z⟩
  keep:=fun i h h' st k=>st.at fun o e=>k it (by simp) o e
  item:=by
    intro X hP hw hK hc ht i pins s σ H E I hf st hg
    subst hP hw hK
    obtain ⟨xs,x,hq,hx⟩:=hg
    obtain ⟨its,rv,p,hz⟩:=I.list hq
    obtain ⟨u,hu,ru⟩:=rv.get hx
    obtain ⟨f0,f1,f2,f3,f4,f5⟩:=hf it (by simp)
    refine wpAny_pyNext_list_item st p.isList (x:=u) (by simpa using hu) fun h' st' sb=>?_
    have I1:Inv X pins σ H { s with heap:=h' }:=I.turned (t':=s.toks) (fun b o hb e=>(sb.2 b hb).trans e) f0 f1 f3 f4 f5
    obtain ⟨o,e,c,d⟩:=id st'
    exact ⟨u,rfl,a5Z (s:={ s with heap:=h' }) e c d (by decide) ⟨x,H,I1,ru,⟨rfl,fun ys hy=>by rw [I.acS hy hq];exact hx⟩,st',fun b hb=>(hf b hb).1⟩⟩
  done:=by
    intro X hP hw hK hc ht i pins s σ H E I hf st hg
    subst hP hw hK
    obtain ⟨xs,hq,hx⟩:=hg
    obtain ⟨its,rv,p,hz⟩:=I.list hq
    obtain ⟨f0,f1,f2,f3,f4,f5⟩:=hf it (by simp)
    have hl:=rv.length
    exact aaZ (I.hnd.heap I.hok) st p.isList (by simp;omega) fun h' eb=>⟨rfl,I.turned (t':=s.toks) (fun b o hb e=>eb b o hb e) f0 f1 f3 f4 f5⟩
  self:=fun _ _ _ _ _ st h=>wpAny_pyIter_listiter st h
theorem zN {cm:Bool} {tl:List (Addr×List V)} {P:Program} {w:World} {K:PySem.W.Frag} {tg:Expr} (a it:Addr):Turn cm tl P w K tg (Itt K a) [it] it (fun i h=>h.IsTupleIter it a i) where
  mem:=by simp
  obj:=fun i h st b hb=>by
    have e:b=it:=by simpa using hb
    subst e
    obtain ⟨o,e,c,d⟩:=st
    exact ⟨o,e,fun v z=>by rw [d] at z;cases z⟩
  keep:=fun i h h' st k=>st.at fun o e=>k it (by simp) o e
  item:=by
    intro X hP hw hK hc ht i pins s σ H E I hf st hg
    subst hP hw hK
    obtain ⟨xs,x,hq,hx⟩:=hg
    obtain ⟨its,rv,p,hz⟩:=I.tuple hq
    obtain ⟨u,hu,ru⟩:=rv.get hx
    obtain ⟨f0,f1,f2,f3,f4,f5⟩:=hf it (by simp)
    refine wpAny_pyNext_tuple_item st (show s.heap.IsTuple a its.toArray from p) (x:=u) (by simpa using hu) fun h' st' sb=>?_
    have I1:Inv X pins σ H { s with heap:=h' }:=I.turned (t':=s.toks) (fun b o hb e=>(sb.2 b hb).trans e) f0 f1 f3 f4 f5
    obtain ⟨o,e,c,d⟩:=id st'
    exact ⟨u,rfl,a5Z (s:={ s with heap:=h' }) e c d (by decide) ⟨x,H,I1,ru,⟨rfl,fun ys hy=>by rw [I.wN hy hq];exact hx⟩,st',fun b hb=>(hf b hb).1⟩⟩
  done:=by
    intro X hP hw hK hc ht i pins s σ H E I hf st hg
    subst hP hw hK
    obtain ⟨xs,hq,hx⟩:=hg
    obtain ⟨its,rv,p,hz⟩:=I.tuple hq
    obtain ⟨f0,f1,f2,f3,f4,f5⟩:=hf it (by simp)
    have hl:=rv.length
    exact acL (I.hnd.heap I.hok) st (show s.heap.IsTuple a its.toArray from p) (by simp;omega) fun h' eb=>⟨rfl,I.turned (t':=s.toks) (fun b o hb e=>eb b o hb e) f0 f1 f3 f4 f5⟩
  self:=fun _ _ _ _ _ st h=>wpAny_pyIter_tupleiter st h
theorem a7V {cm:Bool} {tl:List (Addr×List V)} {P:Program} {w:World} {K:PySem.W.Frag} {tg:Expr} (it:Addr) (lo:Int) (n:Nat):Turn cm tl P w K tg (Itr lo n) [it] it (fun i h=>IsRangeIter h it (lo+(i:Nat) * 1) ((n:Int) - (i:Nat)) 1) where
  mem:=by simp
  obj:=fun i h st b hb=>by
    have e:b=it:=by simpa using hb
    subst e
    exact ⟨_,st,fun v z=>by
      have z':Data.fields _=Data.cell v:=z
      cases z'⟩
  keep:=fun i h h' st k=>k it (by simp) _ st
  item:=by
    intro X hP hw hK hc ht i pins s σ H E I hf st hg
    subst hP hw hK
    obtain ⟨f0,f1,f2,f3,f4,f5⟩:=hf it (by simp)
    have hi:i < n:=hg
    refine wpAny_pyNext_range_item st (by omega) fun h' st' kk=>?_
    have I1:Inv X pins σ H { s with heap:=h',toks:=s.toks+1 }:=I.turned (fun b o hb e=>(kk.2 b hb).trans e) f0 f1 f3 f4 f5
    have st2:IsRangeIter h' it (lo+((i+1:Nat):Int) * 1) ((n:Int) - ((i+1:Nat):Int)) 1:=by
      have e1:lo+((i:Nat):Int) * 1+1=lo+((i+1:Nat):Int) * 1:=by omega
      have e2:(n:Int) - ((i:Nat):Int) - 1=(n:Int) - ((i+1:Nat):Int):=by omega
      rw [← e1,← e2];exact st'
    refine ⟨_,rfl,a5Z (s:={ s with heap:=h',toks:=s.toks+1 }) (n := "range_iterator") st2 rfl rfl (by decide) ⟨.int (lo+i),H,I1,⟨s.toks,?_⟩,⟨rfl,rfl⟩,st2,fun b hb=>(hf b hb).1⟩⟩
    rw [Int.mul_one]
  done:=by
    intro X hP hw hK hc ht i pins s σ H E I hf st hg
    subst hP hw hK
    obtain ⟨f0,f1,f2,f3,f4,f5⟩:=hf it (by simp)
    exact acM (I.hnd.heap I.hok) st (by have:n≤i:=hg;omega) fun h' eb=>⟨rfl,I.turned (t':=s.toks) (fun b o hb e=>eb b o hb e) f0 f1 f3 f4 f5⟩
  self:=fun _ _ _ _ _ st h=>wpAny_pyIter_rangeiter st h
end L2
namespace L2
open PySem PySem.Spec PyProof.Rows
section
variable {X:Cx} {tg:Expr}
theorem acW {pins:List (Addr×Obj)} {σ:St} {H:Hp} {s:Shared} {R:It→Hp→Prop} {E:Value→Shared→Prop} {lo hi:Int} {t u v:Tok} {tk:Nat} (I:Inv X pins σ H s) (h1:-(2 ^ 62)≤lo) (h2:lo < 2 ^ 62) (h3:-(2 ^ 62)≤hi) (h4:hi < 2 ^ 62)
    (q:R (Itr lo (hi - lo).toNat) H):wpAny (model X.prog X.w) X.A (pyIter (.ref s.heap.objs.size)) (PIE X pins σ tg R) E { s with heap:=s.heap.push { cls := .type "range",data := .fields #[.int lo t,.int hi u,.int 1 v] },toks:=tk }:=by
  refine wpAny_pyIter_range (IsRange.new ..) (small_one h1 h2 h3 h4) ?_
  have I1:Inv X pins σ H { s with heap:=s.heap.push { cls := .type "range",data := .fields #[.int lo t,.int hi u,.int 1 v] },toks:=tk }:=I.kept fun b o e=>Heap.get?_push_of_some _ e
  refine ⟨(s.heap.push { cls := .type "range",data := .fields #[.int lo t,.int hi u,.int 1 v] }).objs.size,[(s.heap.push { cls := .type "range",data := .fields #[.int lo t,.int hi u,.int 1 v] }).objs.size],_,_,H,rfl,
    I1.kept (t':=tk) fun b o e=>Heap.get?_push_of_some _ e,a7V _ lo (hi - lo).toNat,?_,fun b hb=>?_,q⟩
  · have e1:lo+((0:Nat):Int) * 1=lo:=by simp
    have e2:(((hi - lo).toNat:Nat):Int) - ((0:Nat):Int)=Builtin.Range.rangeSize lo hi 1:=by rw [rangeSize_one];split <;> omega
    show IsRangeIter _ _ (lo+((0:Nat):Int) * 1) ((((hi - lo).toNat:Nat):Int) - ((0:Nat):Int)) 1
    rw [e1,e2]
    exact Heap.get?_push_size _ rfl
  · have e:b=(s.heap.push { cls := .type "range",data := .fields #[.int lo t,.int hi u,.int 1 v] }).objs.size:=by simpa using hb
    subst e
    exact I1.a3U (Nat.le_refl _) (I1.hok.fresh (Nat.le_refl _))
def aqK (ta:TA):TI:=fun σ H R=>ta σ H fun vs H1=>∃ j:Int,vs=[.int j]∧-(2 ^ 62)≤j∧j < 2 ^ 62∧R (Itr 0 j.toNat) H1
theorem a2J {a:Expr} {ta:TA} {p pos:Pos} (hg:Gl X "range") (hm:X.mg "range" = none) (ha:PA X [a] ta) (hs:starEach [a] X.env=[(false,eval a X.env)]:=by rfl):PI X tg (.Call (.Name "range" p) [a] [] pos) (aqK ta):=by
  intro pins s σ H R I h _tk
  refine Call_ (a3S I hg hm boot_range (PyProof.Rows.callWith_type1 (cV (ha pos pins s σ H _ I h) fun us s1 ⟨vs,H1,I1,r1,q1⟩=>?_) hs rfl))
  obtain ⟨j,e,q1,q2,q⟩:=q1
  subst e
  cases r1 with
  | cons r rr =>
    cases rr
    obtain ⟨t,rfl⟩:=r
    exact call_range_1 (acW I1 (by omega) (by omega) q1 q2 (by simpa using q))
def avV (wi:TI) (g:TG) (tb:TS):TS:=fun D σ H=>wi σ H fun J H1=>∃ W:Nat→Nat→St→Hp→Prop,(∃ m,W 0 m σ H1)∧∀ i m σ H,W i m σ H →
  (J.stop i H∧D.nx σ H)∨(J.go i H∧∃ N:St→Hp→Prop,(∀ σ' H',N σ' H'→∃ m',m' < m∧W (i+1) m' σ' H')∧∀ x H',J.yld i H x H'→g x σ H' fun σ2 H2=>tb { D with nx:=N,ct:=N,bk:=D.nx } σ2 H2)
def wO (fp:List Addr) (h:Heap):List (Addr×Obj):=fp.filterMap fun b=>(h.get? b).map fun o=>(b,o)
theorem pP {fp:List Addr} {h:Heap} {b:Addr} {o:Obj} (hb:b∈fp) (e:h.get? b=some o):(b,o)∈wO fp h:=List.mem_filterMap.mpr ⟨b,hb,by rw [e];rfl⟩
theorem ab6 {fp:List Addr} {h:Heap} {p:Addr×Obj} (hp:p∈wO fp h):p.1∈fp∧h.get? p.1=some p.2:=by
  obtain ⟨b,hb,e⟩:=List.mem_filterMap.mp hp
  cases q:h.get? b with
  | none=>rw [q] at e;cases e
  | some o =>
    rw [q] at e
    have e':(b,o)=p:=Option.some.inj e
    subst e'
    exact ⟨hb,q⟩
theorem Inv.pinned {pins:List (Addr×Obj)} {σ:St} {H:Hp} {s:Shared} {fp:List Addr} (I:Inv X pins σ H s) (hf:∀ b∈fp,yP X pins H b) (ho:∀ b∈fp,∃ o,s.heap.get? b=some o∧∀ v,o.data ≠ .cell v):Inv X (pins++wO fp s.heap) σ H s :=
  I.a96 fun p hp=>(List.mem_append.mp hp).elim (fun z=>I.pin p (List.mem_append_right _ z)) fun z=>by
    obtain ⟨hb,e⟩:=ab6 z
    obtain ⟨f0,f1,f2,_⟩:=hf p.1 hb
    obtain ⟨o,e',d⟩:=ho p.1 hb
    rw [e] at e';cases e'
    exact ⟨e,f0,f1,f2,d⟩
theorem Inv.vA {pins pl:List (Addr×Obj)} {σ:St} {H:Hp} {s:Shared} (I:Inv X (pins++pl) σ H s):Inv X pins σ H s:=I.a96 fun p hp=>I.pin p (List.mem_append_right _ (List.mem_append_left _ hp))
theorem am1 {iter:Expr} {body:List Stmt} {wi:TI} {g:TG} {tb:TS} {pos:Pos} (hp:PassesOwn (model X.prog X.w) X.A X.env X.xe) (hi:PI X tg iter wi) (hg:PG X tg g) (hb:z8 X body tb)
    (hs:∀ x,foldedSetIterable iter X.env x=pure x:=by intro _;rfl):PS X (.For tg iter body [] pos) (avV wi g tb):=by
  intro pins s σ H D I h _tk
  refine wpAny_For (cV (hi pins s σ H _ I h) fun v s1 h1=>cV h1 fun itv s2 h2=>?_) hs
  intro azQ
  obtain ⟨it,fp,tn,J,H2,e,I2,T,st2,f2,W,⟨m0,w0⟩,turn⟩:=h2
  subst e
  have stat:∀ {H':Hp},(∀ b∈fp,H' b=none)→∀ b∈fp,yP X pins H' b:=fun hn b hb=>⟨hn b hb,(f2 b hb).2⟩
  refine codeAny_forLoop_any (fun n s'=>Tk X.need s'∧∃ i σ' H',Inv X pins σ' H' s'∧tn i s'.heap∧(∀ b∈fp,H' b=none)∧W i n σ' H') ?_ m0 ⟨inferInstance,0,σ,H2,I2,st2,fun b hb=>(f2 b hb).1,w0⟩
  rintro n s3 ⟨tk3,i,σ3,H3,I3,st3,fr3,w3⟩
  rcases turn i n σ3 H3 w3 with ⟨stop,qn⟩ | ⟨go,N,hN,step⟩
  · refine wpAny_passesOwn hp (cV (T.done X rfl rfl rfl (fun h=>h) (fun _ h=>h) i pins s3 σ3 H3 X.xe I3 (stat fr3) st3 stop) fun r s4 ⟨hr,I4⟩=>?_)
    subst hr
    exact wpAny_execs_nil ⟨σ3,H3,I4,qn⟩
  · refine wpAny_passesOwn hp (cV (T.item X rfl rfl rfl (fun h=>h) (fun _ h=>h) i pins s3 σ3 H3 X.xe I3 (stat fr3) st3 go) fun r s4 ⟨u,hr,h4⟩=>?_)
    subst hr
    refine wpAny_passesOwn hp (cV h4 fun _ s5 ⟨x,H5,I5,r5,y5,st5,fr5⟩=>?_)
    have I5':=I5.pinned (stat fr5) (T.obj _ _ st5)
    refine wpAny_passesOwn hp (cV (hg _ s5 σ3 H5 x u _ I5' r5 (step x H5 y5)) fun _ s6 ⟨σ6,H6,I6,q6⟩=>?_)
    refine wpAny_passesOwn hp (cV (hb _ s6 σ6 H6 _ I6 q6) fun f s7 q7=>?_)
    intro azT
    have again:∀ {σ7:St} {H7:Hp},Inv X (pins++wO fp s5.heap) σ7 H7 s7→N σ7 H7→∃ m,m < n∧Tk X.need s7∧∃ i σ' H',Inv X pins σ' H' s7∧tn i s7.heap∧(∀ b∈fp,H' b=none)∧W i m σ' H':=fun {σ7 H7} I7 n7=>by
      obtain ⟨m',hm,w7⟩:=hN σ7 H7 n7
      refine ⟨m',hm,inferInstance,i+1,σ7,H7,I7.vA,T.keep _ _ _ st5 fun b hb o e=>(I7.pin (b,o) (List.mem_append_right _ (List.mem_append_right _ (pP hb e)))).1,fun b hb=>?_,w7⟩
      obtain ⟨o,e,d⟩:=T.obj _ _ st5 b hb
      exact (I7.pin (b,o) (List.mem_append_right _ (List.mem_append_right _ (pP hb e)))).2.1
    cases f with
    | next=>obtain ⟨σ7,H7,I7,n7⟩:=q7;exact again I7 n7
    | cont=>obtain ⟨σ7,H7,I7,n7⟩:=q7;exact again I7 n7
    | brk=>obtain ⟨σ7,H7,I7,q7⟩:=q7;exact ⟨σ7,H7,I7.vA,q7⟩
    | ret v=>obtain ⟨x7,σ7,H7,I7,r7,q7⟩:=q7;exact ⟨x7,σ7,H7,I7.vA,r7,q7⟩
end
end L2
namespace L2
open PySem PySem.Spec PyProof.Rows
abbrev R2:=V→V→Hp→VK→Prop
def qR (X:Cx) (f:Value→Value→Sem Value) (r:R2):Prop :=
  ∀ (pins:List (Addr×Obj)) (s:Shared) (σ:St) (H:Hp) (x y:V) (v u:Value) (Q:VK),Inv X pins σ H s→RelV x v→RelV y u→r x y H Q →
    wpAny (model X.prog X.w) X.A (f v u) (EP X pins σ Q) X.xe s
def UnR (X:Cx) (f:Value→Sem Value) (r:V→Hp→VK→Prop):Prop :=
  ∀ (pins:List (Addr×Obj)) (s:Shared) (σ:St) (H:Hp) (x:V) (v:Value) (Q:VK),Inv X pins σ H s→RelV x v→r x H Q →
    wpAny (model X.prog X.w) X.A (f v) (EP X pins σ Q) X.xe s
def rE (X:Cx) (f:Value) (r:List V→Hp→VK→Prop):Prop :=
  ∀ (pins:List (Addr×Obj)) (s:Shared) (σ:St) (H:Hp) (xs:List V) (us:List Value) (Q:VK),Inv X pins σ H s→Vals xs us→r xs H Q →
    wpAny (model X.prog X.w) X.A (call f us) (EP X pins σ Q) X.xe s
def tOp (r:R2) (ta tb:TE):TE:=fun σ H Q=>ta σ H fun x H1=>tb σ H1 fun y H2=>r x y H2 Q
def tUn (r:V→Hp→VK→Prop) (ta:TE):TE:=fun σ H Q=>ta σ H fun x H1=>r x H1 Q
def rI (C:Int→Int→Prop) (g:Int→Int→V):R2:=fun x y H Q=>∃ i j,x = .int i∧y = .int j∧C i j∧Q (g i j) H
def rI0 (g:Int→Int→V):R2:=fun x y H Q=>∃ i j,x = .int i∧y = .int j∧Q (g i j) H
def rU (g:Int→V):V→Hp→VK→Prop:=fun x H Q=>∃ i,x = .int i∧Q (g i) H
section
variable {X:Cx} {a b c:Expr} {ta tb tc:TE} {pos:Pos}
theorem am2 (ha:PE X a ta) (hb:PE X b tb) {pins:List (Addr×Obj)} {s:Shared} {σ:St} {H:Hp} {R:V→V→Hp→Prop} [Tk X.need s] (I:Inv X pins σ H s)
    (h:ta σ H fun x H1=>tb σ H1 fun y H2=>R x y H2) {Q:Value→Shared→Prop} {f:Value→Value→Sem Value}
    (hf:∀ v u s2 x y H2,Inv X pins σ H2 s2→RelV x v→RelV y u→R x y H2→wpAny (model X.prog X.w) X.A (f v u) Q X.xe s2) :
    wpAny (model X.prog X.w) X.A (eval a X.env) (fun v s₁=>wpAny (model X.prog X.w) X.A (eval b X.env) (fun u s₂=>wpAny (model X.prog X.w) X.A (f v u) Q X.xe s₂) X.xe s₁) X.xe s:=by
  refine cV (ha pins s σ H _ I h) fun v s1 ⟨x,H1,I1,r1,q1⟩=>?_
  refine cV (hb pins s1 σ H1 _ I1 q1) fun u s2 ⟨y,H2,I2,r2,q2⟩=>?_
  exact hf v u s2 x y H2 I2 r1 r2 q2
theorem aqL {op:Operator} {r:R2} (ho:qR X (binaryOp op) r) (ha:PE X a ta) (hb:PE X b tb):PE X (.BinOp a op b pos) (tOp r ta tb):=by
  intro pins s σ H Q I h _tk
  exact wpAny_BinOp (am2 ha hb I h fun v u s2 x y H2 I2 rx ry q=>ho pins s2 σ H2 x y v u Q I2 rx ry q)
theorem aqM {op:UnaryOp} {r:V→Hp→VK→Prop} (ho:UnR X (unaryOp op) r) (ha:PE X a ta):PE X (.UnaryOp op a pos) (tUn r ta):=by
  intro pins s σ H Q I h _tk
  exact UnaryOp_ (cV (ha pins s σ H _ I h) fun v s1 ⟨x,H1,I1,r1,q1⟩=>ho pins s1 σ H1 x v Q I1 r1 q1)
theorem opI {f:Value→Value→Sem Value} {C:Int→Int→Prop} {g:Int→Int→Int}
    (rule:∀ (i j:Int) (t u:Tok) (s:Shared) (Q:Value→Shared→Prop) (E:Value→Shared→Prop),C i j→Q (.int (g i j) s.toks) { s with toks:=s.toks+1 }→wpAny (model X.prog X.w) X.A (f (.int i t) (.int j u)) Q E s) :
    qR X f (rI C fun i j => .int (g i j)):=by
  intro pins s σ H x y v u Q I rx ry h
  obtain ⟨i,j,rfl,rfl,hc,q⟩:=h
  obtain ⟨t,rfl⟩:=rx
  obtain ⟨t',rfl⟩:=ry
  exact rule i j t t' s _ _ hc ⟨.int (g i j),H,I.tok _,⟨_,rfl⟩,q⟩
theorem aqN {f:Value→Value→Sem Value} {g:Int→Int→Int}
    (rule:∀ (i j:Int) (t u:Tok) (s:Shared) (Q:Value→Shared→Prop) (E:Value→Shared→Prop),Q (.int (g i j) s.toks) { s with toks:=s.toks+1 }→wpAny (model X.prog X.w) X.A (f (.int i t) (.int j u)) Q E s) :
    qR X f (rI0 fun i j => .int (g i j)):=by
  intro pins s σ H x y v u Q I rx ry h
  obtain ⟨i,j,rfl,rfl,q⟩:=h
  obtain ⟨t,rfl⟩:=rx
  obtain ⟨t',rfl⟩:=ry
  exact rule i j t t' s _ _ ⟨.int (g i j),H,I.tok _,⟨_,rfl⟩,q⟩
theorem agX {f:Value→Value→Sem Value} {g:Int→Int→Bool}
    (rule:∀ (i j:Int) (t u:Tok) (s:Shared) (Q:Value→Shared→Prop) (E:Value→Shared→Prop),Q (.bool (g i j)) s→wpAny (model X.prog X.w) X.A (f (.int i t) (.int j u)) Q E s) :
    qR X f (rI0 fun i j => .bl (g i j)):=by
  intro pins s σ H x y v u Q I rx ry h
  obtain ⟨i,j,rfl,rfl,q⟩:=h
  obtain ⟨t,rfl⟩:=rx
  obtain ⟨t',rfl⟩:=ry
  exact rule i j t t' s _ _ ⟨.bl (g i j),H,I,rfl,q⟩
def am3 (i j:Int):Prop:=0 < j∧j < 1073741824
def aqO (i j:Int):Prop:=0≤j∧j≤1000000∧i.natAbs < 2 ^ 64
def acX (i j:Int):Prop:=(-(2 ^ 64) < i∧i < 2 ^ 64)∨(-(2 ^ 64) < j∧j < 2 ^ 64)
theorem acX.ok {i j:Int} (h:acX i j):IntMulOk i j:=by
  rcases h with ⟨h1,h2⟩ | ⟨h1,h2⟩
  · exact .of_left (intBits_le_64 h1 h2)
  · exact .of_right (intBits_le_64 h1 h2)
theorem am4:qR X (binaryOp .Add) (rI0 fun i j => .int (i+j)):=aqN fun _ _ _ _ _ _ _ q=>add_int q
theorem am5:qR X (binaryOp .Sub) (rI0 fun i j => .int (i - j)):=aqN fun _ _ _ _ _ _ _ q=>sub_int q
theorem am6:qR X (binaryOp .Mult) (rI acX fun i j => .int (i * j)):=opI fun _ _ _ _ _ _ _ hc q=>mul_int q hc.ok
theorem agY:qR X (binaryOp .FloorDiv) (rI am3 fun i j => .int (i / j)):=opI fun i j _ _ _ _ _ hc q=>by
  have h1:(0:Int) < j:=hc.1
  have h2:j < 1073741824:=hc.2
  exact floordiv_int (by omega) (by rw [Int.fdiv_eq_ediv_of_nonneg i (by omega)];exact q) (.inl (PyProof.noPylong_small (by omega)))
theorem am7:qR X (binaryOp .Mod) (rI (fun _ j=>0 < j) fun i j => .int (i % j)):=opI fun i j _ _ _ _ _ hc q=>by
  have h1:(0:Int) < j:=hc
  exact mod_int' (by omega) (by rw [Int.fmod_eq_emod_of_nonneg i (by omega)];exact q)
theorem am8:qR X (binaryOp .Pow) (rI aqO fun i j => .int (i ^ j.toNat)):=opI fun _ _ _ _ _ _ _ hc q=>pow_int_small hc.1 hc.2.1 hc.2.2 q
theorem unI {f:Value→Sem Value} {g:Int→Int}
    (rule:∀ (i:Int) (t:Tok) (s:Shared) (Q:Value→Shared→Prop) (E:Value→Shared→Prop),Q (.int (g i) s.toks) { s with toks:=s.toks+1 }→wpAny (model X.prog X.w) X.A (f (.int i t)) Q E s) :
    UnR X f (rU fun i => .int (g i)):=by
  intro pins s σ H x v Q I rx h
  obtain ⟨i,rfl,q⟩:=h
  obtain ⟨t,rfl⟩:=rx
  exact rule i t s _ _ ⟨.int (g i),H,I.tok _,⟨_,rfl⟩,q⟩
theorem am9:UnR X (unaryOp .USub) (rU fun i => .int (-i)):=unI fun _ _ _ _ _ q=>neg_int q
end
section
variable {X:Cx} {a b c:Expr} {ta tb tc:TE} {pos:Pos}
theorem a3V {pins:List (Addr×Obj)} {σ:St} {H:Hp} {s:Shared} {Q:VK} {k k':Bool} (I:Inv X pins σ H s) (q:Q (.bl k) H) (e:k=k'):EP X pins σ Q (.bool k') s:=by
  subst e
  exact ⟨.bl k,H,I,rfl,q⟩
theorem aqP:qR X (compareOp .Lt) (rI0 fun i j => .bl (decide (i < j))):=agX fun _ _ _ _ _ _ _ q=>lt_int q
theorem aqQ:qR X (compareOp .LtE) (rI0 fun i j => .bl (decide (i≤j))):=agX fun _ _ _ _ _ _ _ q=>le_int q
theorem aqR:qR X (compareOp .Gt) (rI0 fun i j => .bl (decide (j < i))):=agX fun _ _ _ _ _ _ _ q=>gt_int q
theorem aqS:qR X (compareOp .GtE) (rI0 fun i j => .bl (decide (j≤i))):=agX fun _ _ _ _ _ _ _ q=>ge_int q
theorem ab7:qR X (compareOp .In) (fun x y H Q=>∃ i j,x = .str i∧y = .str j∧Q (.bl (!(Builtin.Str.occurrences j i 0 j.length 1).isEmpty)) H):=by
  intro pins s σ H x y v u Q I rx ry h
  obtain ⟨i,j,rfl,rfl,q⟩:=h
  obtain ⟨t,rfl⟩:=rx
  obtain ⟨t',rfl⟩:=ry
  exact in_str (a3V I q rfl)
theorem amA:qR X (compareOp .Is) (fun x y H Q=>y = .non∧Q (.bl (decide (x = .non))) H):=by
  intro pins s σ H x y v u Q I rx ry h
  obtain ⟨rfl,q⟩:=h
  cases ry
  refine is_none_gen (a3V I q ?_)
  cases x <;> first
    | (cases rx;rfl)
    | (obtain ⟨t,rfl⟩:=rx;rfl)
theorem agZ:qR X (compareOp .IsNot) (fun x y H Q=>y = .non∧Q (.bl (!decide (x = .non))) H):=by
  intro pins s σ H x y v u Q I rx ry h
  obtain ⟨rfl,q⟩:=h
  cases ry
  refine isnot_none_gen (a3V I q ?_)
  cases x <;> first
    | (cases rx;rfl)
    | (obtain ⟨t,rfl⟩:=rx;rfl)
theorem a3W:qR X (compareOp .NotIn) (fun x y H Q=>∃ i j,x = .str i∧y = .str j∧Q (.bl (!(!(Builtin.Str.occurrences j i 0 j.length 1).isEmpty))) H):=by
  intro pins s σ H x y v u Q I rx ry h
  obtain ⟨i,j,rfl,rfl,q⟩:=h
  obtain ⟨t,rfl⟩:=rx
  obtain ⟨t',rfl⟩:=ry
  exact notIn_str (a3V I q rfl)
theorem qR.or {f:Value→Value→Sem Value} {r r':R2} (h:qR X f r) (h':qR X f r'):qR X f (fun x y H Q=>r x y H Q∨r' x y H Q):=by
  intro pins s σ H x y v u Q I rx ry q
  rcases q with q | q
  · exact h pins s σ H x y v u Q I rx ry q
  · exact h' pins s σ H x y v u Q I rx ry q
theorem avY (b:Expr) {op:CmpOp} (h:op ≠ .In:=by decide) (h2:op ≠ .NotIn:=by decide):behindInMarks op b=false:=by
  have e1:(op == CmpOp.In)=false:=by cases op <;> first | rfl | exact absurd rfl h
  have e2:(op == CmpOp.NotIn)=false:=by cases op <;> first | rfl | exact absurd rfl h2
  cases b <;> simp [behindInMarks,e1,e2]
theorem ah0 {op:CmpOp} {r:R2} (ho:qR X (compareOp op) r) (ha:PE X a ta) (hb:PE X b tb) (hm:behindInMarks op b=false):PE X (.Compare a [op] [b] pos) (tOp r ta tb):=by
  intro pins s σ H Q I h _tk
  exact wpAny_Compare1 (am2 ha hb I h fun v u s2 x y H2 I2 rx ry q=>ho pins s2 σ H2 x y v u Q I2 rx ry q) hm
def akD (t:TE):TT:=fun σ H Q=>t σ H fun x H'=>∃ k,x = .bl k∧Q k H'
theorem ah1 {op:CmpOp} {r:R2} (ho:qR X (compareOp op) r) (ha:PE X a ta) (hb:PE X b tb) (hm:behindInMarks op b=false):PT X (.Compare a [op] [b] pos) (akD (tOp r ta tb)):=by
  intro pins s σ H Q I h _tk
  refine wpAny_isTrue_Compare1 (cV (ha pins s σ H _ I h) fun v s1 ⟨x,H1,I1,r1,q1⟩=>cV (hb pins s1 σ H1 _ I1 q1) fun u s2 ⟨y,H2,I2,r2,q2⟩ =>
    cV (ho pins s2 σ H2 x y v u _ I2 r1 r2 q2) fun c s3 ⟨z,H3,I3,r3,k,e,q3⟩=>?_) hm
  subst e
  cases r3
  exact wpAny_truthy_bool ⟨H3,I3,q3⟩
theorem zO:(sizeLine:Nat) < 2 ^ 63:=by rw [sizeLine_eq];decide
theorem a7W:qR X (binaryOp .Add) (fun x y H Q=>∃ i j,x = .str i∧y = .str j∧i.length+j.length≤sizeLine∧Q (.str (i++j)) H):=by
  intro pins s σ H x y v u Q I rx ry h
  obtain ⟨i,j,rfl,rfl,hz,q⟩:=h
  obtain ⟨t,rfl⟩:=rx
  obtain ⟨t',rfl⟩:=ry
  exact add_str (fun t' tk=>⟨.str (i++j),H,I.tok _,⟨_,rfl⟩,q⟩) hz
theorem vals1 {x:V} {us:List Value} (r:Vals [x] us):∃ u,us=[u]∧RelV x u:=by
  cases r with
  | cons r1 r2=>cases r2;exact ⟨_,rfl,r1⟩
theorem vals2 {x y:V} {us:List Value} (r:Vals [x,y] us):∃ u w',us=[u,w']∧RelV x u∧RelV y w':=by
  cases r with
  | cons r1 r2 =>
    cases r2 with
    | cons r3 r4=>cases r4;exact ⟨_,_,rfl,r1,r3⟩
theorem ab8:rE X (.type "int") (fun xs H Q=>(∃ i,xs=[.int i]∧Q (.int i) H)∨∃ k,xs=[.bl k]∧Q (.int (if k then 1 else 0)) H):=by
  intro pins s σ H xs us Q I r h
  rcases h with ⟨i,rfl,q⟩ | ⟨k,rfl,q⟩
  · obtain ⟨u,rfl,t,rfl⟩:=vals1 r
    exact call_int_int ⟨.int i,H,I,⟨_,rfl⟩,q⟩
  · obtain ⟨u,rfl,r1⟩:=vals1 r
    cases r1
    exact call_int_bool ⟨.int (if k then 1 else 0),H,I.tok _,⟨_,rfl⟩,q⟩
end
end L2
namespace L2
open PySem PySem.Spec PyProof.Rows
section
variable {prog:Program} {w:World} {A:Around} {E:Value→Shared→Prop} {s:Shared} {K:PySem.W.Frag} {x dx C f:Addr} {mA:Str→Option Value} {name:Str} {v:Value}
theorem acY {R:Result→Shared→Prop} {vs:List Value} {kw:List (Str×Value)} (X:K.In s.heap) (hm:PySem.W.makesIn K C=true)
    (hi:PySem.W.findIn K (.ref C) "__init__" = some (some (.ref f))) (hf:PySem.W.typeIn K (.ref f)=some (.type "function"))
    (h:codeAny (model prog w) (A.under (.builtin "type.__call__" ⟨.ref C :: vs,kw⟩)) (.call (.ref f) ⟨.ref (s.heap.objs.size+1) :: vs,kw⟩) (PySem.W.InitBack (s.heap.objs.size+1) R)
      { s with heap:=(s.heap.push PySem.W.emptyDict).push (PySem.W.instObj C s.heap.objs.size) }) :
    codeAny (model prog w) A (.call (.ref C) ⟨vs,kw⟩) R s:=by
  obtain ⟨hh,g,d,t,os⟩:=s
  exact PySem.W.make_core (PySem.W.makes_of X hm) (PySem.W.looks_findIn X hi) (fun self=>PySem.W.bind_fn X self hf) (.inl rfl) h
end
theorem yN.some_of {v:V} {o:Option Value} (r:yN (some v) o):∃ u,o=some u∧RelV v u:=by
  cases o with
  | none=>exact (show False from r).elim
  | some u=>exact ⟨u,rfl,r⟩
section
variable {P:Program} {w:World} {H H':Hp} {h h':Heap} {a C dx:Addr} {fs fs':List (Str×V)}
end
structure Cls (K:PySem.W.Frag) (C:Addr):Prop where
  pg:PySem.W.plainGet K C Str.empty=true
  hd:PySem.W.hasDictIn K C=true
  po:PySem.W.plainOver K C=true
  sa:PySem.W.findIn K (.ref C) "__setattr__" = some (some (.builtin "object.__setattr__"))
theorem Cls.get {K:PySem.W.Frag} {C:Addr} (c:Cls K C) (f:Str):PySem.W.plainGet K C f=true:=c.pg
def acZ (K:PySem.W.Frag) (C:Addr) (f:Str):Prop:=PySem.W.findIn K (.ref C) f=some none
structure Meth (K:PySem.W.Frag) (C:Addr) (m:Str) (f:Addr):Prop where
  at_:PySem.W.findIn K (.ref C) m=some (some (.ref f))
  fn:PySem.W.isFn K (.ref f)=true
  kp:PySem.W.keepIn K (.ref f)=true
section
variable {X:Cx} {pins:List (Addr×Obj)} {σ:St} {H:Hp} {s:Shared} {a C dx:Addr} {fs:List (Str×V)} {f:Str} {v:V} {A:Around} {E:Value→Shared→Prop}
theorem Inv.made (I:Inv X pins σ H s):Inv X pins σ (upd (upd H s.heap.objs.size (.own (s.heap.objs.size+1))) (s.heap.objs.size+1) (.ins C s.heap.objs.size []))
    { s with heap:=(s.heap.push PySem.W.emptyDict).push (PySem.W.instObj C s.heap.objs.size) }:=by
  have e1:(s.heap.push PySem.W.emptyDict).get? s.heap.objs.size=some PySem.W.emptyDict:=Heap.get?_push_size s.heap rfl
  have e2:((s.heap.push PySem.W.emptyDict).push (PySem.W.instObj C s.heap.objs.size)).get? (s.heap.objs.size+1)=some (PySem.W.instObj C s.heap.objs.size):=by
    have:=Heap.get?_push_size (s.heap.push PySem.W.emptyDict) (o:=PySem.W.instObj C s.heap.objs.size) rfl
    rwa [Heap.size_push] at this
  have e3:(s.heap.push PySem.W.emptyDict).Ns s.heap.objs.size (fun _=>none):=⟨PySem.W.emptyDict,#[],_,e1,rfl,(fun e he=>absurd he (by simp)),fun _=>rfl⟩
  have I1:=I.laid (a:=s.heap.objs.size) (o := .own (s.heap.objs.size+1)) (h':=s.heap.push PySem.W.emptyDict) (t':=s.toks) (fun b u q=>Heap.get?_push_of_some _ q) (Nat.le_refl _) ⟨_,e1⟩
  refine I1.laid (a:=s.heap.objs.size+1) (o := .ins C s.heap.objs.size []) (t':=s.toks) (fun b u q=>Heap.get?_push_of_some _ q) (Nat.le_of_eq (Heap.size_push _ _)) ?_
  have ne:s.heap.objs.size≠s.heap.objs.size+1:=Nat.ne_of_lt (Nat.lt_succ_self _)
  refine ⟨by rw [aK ne,aJ],Nat.zero_le _,ne,e2,fun _=>none,(Heap.Ns1.of_empty e3).at fun o q=>Heap.get?_push_of_some _ q,fun _=>True.intro,fun y hy=>absurd rfl hy⟩
end
section
variable {X:Cx} {o e value:Expr} {f:Str} {pos pos' tpos:Pos} {ta tv:TE}
end
section
variable {X:Cx} {pins:List (Addr×Obj)} {σ:St} {H:Hp} {s:Shared} {A:Around} {E:Value→Shared→Prop} {Q:Value→Shared→Prop} {c:Value} {b:Bool}
end
end L2
namespace L2
open PySem PySem.Spec PyProof.Rows
structure cH (qt:Bool) (k:Nat) (A:Around):Prop where
  hd:qt=false→A.handled=none
  dp:A.depth+3 * k+5 < recursionLimit
  un:A.units+16 * k+200 < cLine
theorem cH.mono {j k:Nat} {A:Around} (r:cH qt k A) (h:j≤k):cH qt j A:=⟨r.hd,by have:=r.dp;omega,by have:=r.un;omega⟩
theorem cH.deeper {k:Nat} {A:Around} (r:cH qt (k+1) A) (env:Env):cH qt k (A.deeper env) :=
  ⟨r.hd,by have:=r.dp;show A.depth+1+3 * k+5 < _;omega,by have:=r.un;show A.units+3+16 * k+200 < _;omega⟩
theorem cH.in1 {k:Nat} {A:Around} (r:cH qt (k+1) A):cH qt k A.in1 :=
  ⟨r.hd,by have:=r.dp;show A.depth+3 * k+5 < _;omega,by have:=r.un;show A.units+1+16 * k+200 < _;omega⟩
theorem a7X {A:Around} {C:Addr} {us:List Value} {kw:List (Str×Value)}:(A.under (.builtin "type.__call__" ⟨.ref C :: us,kw⟩)).depth=A.depth+1:=by
  first | rfl | simp [Around.under,Code.weight,Code.isCreation,Code.isGuard,Code.isCaller,Code.frames,Code.isFrame,guardIds]
theorem a7Y {A:Around} {C:Addr} {us:List Value} {kw:List (Str×Value)}:(A.under (.builtin "type.__call__" ⟨.ref C :: us,kw⟩)).units=A.units+1:=by
  first | rfl | simp [Around.under,Code.cUnits,Code.frames,Code.isFrame]
theorem cH.make {k:Nat} {A:Around} (r:cH qt (k+1) A) (C:Addr) (us:List Value) (kw:List (Str×Value)):cH qt k (A.under (.builtin "type.__call__" ⟨.ref C :: us,kw⟩)) :=
  ⟨r.hd,by have:=r.dp;rw [a7X];omega,by have:=r.un;rw [a7Y];omega⟩
theorem cH.depth {k:Nat} {A:Around} (r:cH qt k A):A.depth < recursionLimit:=by have:=r.dp;omega
theorem cH.units {k:Nat} {A:Around} (r:cH qt k A):A.units+64 < cLine:=by have:=r.un;omega
def avZ:TA:=fun _ H Q=>Q [] H
def aqT (ta:TE) (tr:TA):TA:=fun σ H Q=>ta σ H fun x H1=>tr σ H1 fun xs H2=>Q (x :: xs) H2
section
variable {X:Cx} {e:Expr} {es:List Expr} {te:TE} {t:TA} {pos:Pos}
theorem amB:PA X [] avZ:=fun _ _ _ _ H Q I h=>Calls.spliced_nil ⟨[],H,I,.nil,h⟩
theorem ah2 (ha:PE X e te) (hr:PA X es t) (hs:starEach (e :: es) X.env=(false,eval e X.env) :: starEach es X.env:=by rfl):PA X (e :: es) (aqT te t):=by
  intro pos pins s σ H Q I h _tk
  rw [hs]
  show wpAny _ _ (spliced ((false,eval e X.env) :: backTo pos (starEach es X.env))) _ _ s
  refine Calls.spliced_cons (cV (ha pins s σ H _ I h) fun u s1 ⟨x,H1,I1,r1,q1⟩=>?_)
  exact cV (hr pos pins s1 σ H1 _ I1 q1) fun us s2 ⟨xs,H2,I2,r2,q2⟩=>⟨x :: xs,H2,I2,.cons r1 r2,q2⟩
def aw0 (t:TA):TE:=fun σ H Q=>t σ H fun xs H1=>xs.length≤sizeLine∧∀ p,H1 p=none→Q (.ref p) (upd H1 p (.tup xs))
def aw1 (t:TA):TE:=fun σ H Q=>t σ H fun xs H1=>xs.length≤sizeLine∧∀ p,H1 p=none→Q (.ref p) (upd H1 p (.lst xs))
theorem amC {x1} (h:PA X es t):PE X (.Tuple es x1 pos) (aw0 t):=by
  intro pins s σ H Q I hq _tk
  refine wpAny_Tuple_spliced (cV (h pos pins s σ H _ I hq) fun us s1 ⟨xs,H1,I1,r,z,q⟩=>⟨by rw [← r.length];exact z,?_⟩)
  have hf:H1 s1.heap.objs.size=none:=I1.hok.fresh (Nat.le_refl _)
  refine ⟨.ref s1.heap.objs.size,upd H1 s1.heap.objs.size (.tup xs),I1.laid (t':=s1.toks) (fun b u e=>Heap.get?_push_of_some _ e) (Nat.le_refl _) ?_,rfl,q _ hf⟩
  exact ⟨z,us,r,⟨_,Heap.get?_push_size _ rfl,rfl,_,rfl⟩⟩
theorem amD (h:PA X es t):PE X (.List es pos) (aw1 t):=by
  intro pins s σ H Q I hq _tk
  refine wpAny_List_spliced (cV (h pos pins s σ H _ I hq) fun us s1 ⟨xs,H1,I1,r,z,q⟩=>⟨by rw [← r.length];exact z,?_⟩)
  have hf:H1 s1.heap.objs.size=none:=I1.hok.fresh (Nat.le_refl _)
  refine ⟨.ref s1.heap.objs.size,upd H1 s1.heap.objs.size (.lst xs),I1.laid (t':=s1.toks) (fun b u e=>Heap.get?_push_of_some _ e) (Nat.le_refl _) ?_,rfl,q _ hf⟩
  exact ⟨z,us,0,r,Heap.get?_push_size _ rfl⟩
end
abbrev Sp:=List V→Hp→VK→XK→Prop
abbrev zP:=List Env→Hp→Shared→XK→Value→Shared→Prop
structure uJ (P:Program) (w:World) (K:PySem.W.Frag) (mg:Str→Option Value) (base:Heap) (A:Around) (outer:List Env) (s:Shared) (H:Hp):Prop where
  frames:A.frames=some outer
  mod:Mod K mg base
  bs:∀ b o,base.get? b=some o→s.heap.get? b=some o∧H b=none
  bsz:base.objs.size≤s.heap.objs.size
  lK:s.heap.FunFrames base outer
  frf:∀ b∈frs outer,H b=none
  hok:nR P w H s.heap
  bare:AllBare s.gens
  hnd:Hnd A H
def CE (outer:List Env) (P:Program) (w:World) (H:Hp) (s:Shared) (Q:VK) (u:Value) (s':Shared):Prop :=
  ∃ v H',s'.os=s.os∧AllBare s'.gens∧Un (frs outer) [] H H' s.heap s'.heap∧nR P w H' s'.heap∧RelV v u∧Q v H'
def CR (CX:zP) (outer:List Env) (P:Program) (w:World) (H:Hp) (s:Shared) (Q:VK) (E:XK) (r:Result) (s':Shared):Prop :=
  match r with
  | .ok (.ret u)=>CE outer P w H s Q u s'
  | .ok _=>False
  | .error e=>CX outer H s E e s'
structure cR (qt:Bool) (P:Program) (w:World) (K:PySem.W.Frag) (mg:Str→Option Value) (base:Heap) (CX:zP) (k:Nat) (f:Addr) (fd:FuncData) (ps:List Str) (sp:Sp):Prop where
  len:∀ vs H Q E,sp vs H Q E→vs.length=ps.length
  run:∀ (A:Around) (outer:List Env) (s:Shared) (H:Hp) (args:Args) (us:List Value) (vs:List V) (Q:VK) (E:XK),cH qt k A→uJ P w K mg base A outer s H→BindsTo s fd args (ps.zip us)→Vals vs us→sp vs H Q E →
    codeAny (model P w) A (.call (.ref f) args) (CR CX outer P w H s Q E) s
theorem cR.mono {P:Program} {w:World} {K:PySem.W.Frag} {mg:Str→Option Value} {base:Heap} {CX:zP} {j k:Nat} {f:Addr} {fd:FuncData} {ps:List Str} {sp:Sp} (F:cR qt P w K mg base CX j f fd ps sp) (h:j≤k) :
    cR qt P w K mg base CX k f fd ps sp:=⟨F.len,fun A outer s H args us vs Q E hr=>F.run A outer s H args us vs Q E (hr.mono h)⟩
theorem cR.imp {P:Program} {w:World} {K:PySem.W.Frag} {mg:Str→Option Value} {base:Heap} {CX:zP} {k:Nat} {f:Addr} {fd:FuncData} {ps:List Str} {sp sp':Sp} (F:cR qt P w K mg base CX k f fd ps sp)
    (h:∀ vs H Q E,sp' vs H Q E→sp vs H Q E):cR qt P w K mg base CX k f fd ps sp' :=
  ⟨fun vs H Q E q=>F.len vs H Q E (h _ _ _ _ q),fun A outer s H args us vs Q E hr he hb hv hs=>F.run A outer s H args us vs Q E hr he hb hv (h _ _ _ _ hs)⟩
theorem uJ.make {P:Program} {w:World} {K:PySem.W.Frag} {mg:Str→Option Value} {base:Heap} {A:Around} {outer:List Env} {s:Shared} {H:Hp} (e:uJ P w K mg base A outer s H) (C:Addr) (us:List Value) (kw:List (Str×Value)) :
    uJ P w K mg base (A.under (.builtin "type.__call__" ⟨.ref C :: us,kw⟩)) outer s H:=⟨by first | exact e.frames | (simpa [Around.under,Code.envs,Code.isFrame,pushEnvs] using e.frames),e.mod,e.bs,e.bsz,e.lK,e.frf,e.hok,e.bare,e.hnd⟩
theorem uJ.in1 {P:Program} {w:World} {K:PySem.W.Frag} {mg:Str→Option Value} {base:Heap} {A:Around} {outer:List Env} {s:Shared} {H:Hp} (e:uJ P w K mg base A outer s H) :
    uJ P w K mg base A.in1 outer s H:=⟨e.frames,e.mod,e.bs,e.bsz,e.lK,e.frf,e.hok,e.bare,e.hnd⟩
section
variable {X:Cx} {pins:List (Addr×Obj)} {σ:St} {H:Hp} {s s':Shared}
theorem Inv.env0 (I:Inv X pins σ H s):uJ X.prog X.w X.K X.mg X.base X.A X.stack s H :=
  ⟨I.ok.frames,I.ok.mod,I.bs,Nat.le_trans I.ok.bsz I.sz,I.stack,I.a3R,I.hok,I.bare,I.hnd⟩
end
def Binds (K:PySem.W.Frag) (fd:FuncData) (ps:List Str) (ds:List Value):Prop :=
  ∀ (s:Shared) (us:List Value),K.In s.heap→(us++ds).length=ps.length→BindsTo s fd ⟨us,[]⟩ (ps.zip (us++ds))
theorem Binds.all {K:PySem.W.Frag} {fd:FuncData} {ps:List Str} (h:∀ us:List Value,us.length=ps.length→bindArgs fd ⟨us,[]⟩=pure (ps.zip us)):Binds K fd ps []:=fun s us _ hl=>by
  rw [List.append_nil] at hl ⊢
  exact .of_eq (h us hl)
section
variable {X:Cx} {CX:zP} {k:Nat} {f C:Addr} {fd:FuncData} {ps:List Str} {sp:Sp} {v8:List V} {ds:List Value} {E:XK} {x m:Str} {p pos apos:Pos} {e o:Expr} {es:List Expr} {ta:TE} {t:TA}
structure Mk (K:PySem.W.Frag) (C f:Addr):Prop where
  makes:PySem.W.makesIn K C=true
  init:PySem.W.findIn K (.ref C) "__init__" = some (some (.ref f))
  fn:PySem.W.isFn K (.ref f)=true
  kp:PySem.W.keepIn K (.ref C)=true
end
section
variable {X:Cx} {CX:zP} {k:Nat} {f C:Addr} {fd:FuncData} {ps ks:List Str} {sp:Sp} {E:XK} {x m:Str} {p pos apos kpos:Pos} {e o:Expr} {es:List Expr} {kws:List Keyword} {te ta:TE} {t tk:TA} {nm:Option Str}
variable {g:List Value→List Value→List Value} {gV:List V→List V→List V}
end
structure bF (N P:List Str) (sc:Scope):Prop where
  kind:sc.kind = .function
  co:sc.isCoroutine=false
  gen:sc.isGenerator=false
  nd:N.Nodup
  pre:N.take P.length=P
  par:∀ x∈P,sc.names.lookup x=some .local∨sc.names.lookup x=some .cell
  amE:∀ y∈sc.names,y.2 ≠ .free
theorem a2K {kindOf:Str→Option NameKind} {x:Str}:∀ {binds:List (Str×Value)} {m:Str→Option Value},(∀ v,(x,v) ∉ binds)→bindL kindOf binds m x=m x
  | [],_,_=>rfl
  | (n,v) :: r,m,h=>by
    unfold bindL
    rw [a2K fun w hw=>h w (List.mem_cons_of_mem _ hw)]
    split
    · have:x≠n:=by rintro rfl;exact h v List.mem_cons_self
      simp [this]
    · rfl
theorem a2L {kindOf:Str→Option NameKind} {x:Str}:∀ {binds:List (Str×Value)} {m:Str→Option Value},(∀ v,(x,v) ∉ binds)→bindC kindOf binds m x=m x
  | [],_,_=>rfl
  | (n,v) :: r,m,h=>by
    unfold bindC
    rw [a2L fun w hw=>h w (List.mem_cons_of_mem _ hw)]
    split
    · rfl
    · have:x≠n:=by rintro rfl;exact h v List.mem_cons_self
      simp [this]
theorem wQ {kindOf:Str→Option NameKind} {x:Str} {v:Value}:∀ {P:List Str} {vs:List Value} {i:Nat} {m:Str→Option Value},P.Nodup→P[i]?=some x→vs[i]?=some v→kindOf x=some .local →
    bindL kindOf (P.zip vs) m x=some v
  | [],_,_,_,_,h,_,_=>by simp at h
  | _ :: _,[],_,_,_,_,h,_=>by simp at h
  | p :: P,w :: vs,0,m,nd,h1,h2,hk=>by
    simp at h1 h2;subst h1;subst h2
    show bindL kindOf ((p,w) :: P.zip vs) m p=_
    unfold bindL
    rw [a2K fun v hv=>(List.nodup_cons.mp nd).1 (List.of_mem_zip hv).1,if_pos hk]
    simp
  | p :: P,w :: vs,i+1,m,nd,h1,h2,hk=>by
    show bindL kindOf ((p,w) :: P.zip vs) m x=_
    unfold bindL
    exact wQ (i:=i) (List.nodup_cons.mp nd).2 (by simpa using h1) (by simpa using h2) hk
theorem a2M {kindOf:Str→Option NameKind} {x:Str} {v:Value}:∀ {P:List Str} {vs:List Value} {i:Nat} {m:Str→Option Value},P.Nodup→P[i]?=some x→vs[i]?=some v→kindOf x≠some .local →
    bindC kindOf (P.zip vs) m x=some v
  | [],_,_,_,_,h,_,_=>by simp at h
  | _ :: _,[],_,_,_,_,h,_=>by simp at h
  | p :: P,w :: vs,0,m,nd,h1,h2,hk=>by
    simp at h1 h2;subst h1;subst h2
    show bindC kindOf ((p,w) :: P.zip vs) m p=_
    unfold bindC
    rw [a2L fun v hv=>(List.nodup_cons.mp nd).1 (List.of_mem_zip hv).1,if_neg hk]
    simp
  | p :: P,w :: vs,i+1,m,nd,h1,h2,hk=>by
    show bindC kindOf ((p,w) :: P.zip vs) m x=_
    unfold bindC
    exact a2M (i:=i) (List.nodup_cons.mp nd).2 (by simpa using h1) (by simpa using h2) hk
def start (N:List Str) (vs:List V):St:=vs.map some++List.replicate (N.length - vs.length) none
def fV (qt:Bool) (CX:zP) (P:Program) (w:World) (K:PySem.W.Frag) (mg:Str→Option Value) (base:Heap) (N:List Str) (qual:Str) (scope:Scope) (f:Addr) (cd:Value) (A:Around) (outer:List Env) (s:Shared) (H:Hp) (E:XK):Cx where
  prog:=P
  w:=w
  K:=K
  mg:=mg
  base:=base
  A:=A.deeper (envOfC qual scope s.heap.objs.size f cd)
  N:=N
  s₀:=s
  H₀:=H
  env:=envOfC qual scope s.heap.objs.size f cd
  outer:=outer
  stack:=envOfC qual scope s.heap.objs.size f cd :: outer
  ex:=[]
  calm:=!qt
  fn:=fun _=>true
  pn:=[]
  tp:=[]
  xe:=fun e s'=>wpAny (model P w) (A.deeper (envOfC qual scope s.heap.objs.size f cd)) (leaving (envOfC qual scope s.heap.objs.size f cd) e) (fun _ s''=>CX outer H s E e s'') (fun e' s''=>CX outer H s E e' s'') s'
instance ayD {qt:Bool} {CX:zP} {P:Program} {w:World} {K:PySem.W.Frag} {mg:Str→Option Value} {base:Heap} {N:List Str} {qual:Str} {scope:Scope} {f:Addr} {cd:Value} {A:Around} {outer:List Env} {s s1:Shared} {H:Hp} {E:XK}:Tk (fV qt CX P w K mg base N qual scope f cd A outer s H E).need s1:=⟨fun z=>nomatch z⟩
theorem vB {sc:Scope} {n:Nat} {x:Str} (h:sc.names.lookup x=some .cell):∃ c,(cellsFrom n sc.names []).lookup x=some c:=by
  have q:=PySem.W.cellsFrom_some sc.names n [] (.inl h)
  exact Option.isSome_iff_exists.mp q
theorem wR {CX:zP} {P:Program} {w:World} {K:PySem.W.Frag} {mg:Str→Option Value} {base:Heap} {N ps:List Str} {qual:Str} {scope:Scope} {f:Addr} {cd:Value} {A:Around} {outer:List Env} {s s1:Shared} {H:Hp} {E:XK} {us:List Value} {vs:List V}
    (S:bF N ps scope) (hd:qt=false→A.handled=none) (e0:uJ P w K mg base A outer s H) (hl:vs.length=ps.length) (r:Vals vs us)
    (x:InCallC s s.heap.objs.size (bindL (envOfC qual scope s.heap.objs.size f cd).kindOf (ps.zip us) fun _=>none) (cellsFrom (s.heap.objs.size+1) scope.names []) (bindC (envOfC qual scope s.heap.objs.size f cd).kindOf (ps.zip us) fun _=>none) s1) :
    Inv (fV qt CX P w K mg base N qual scope f cd A outer s H E) [] (start N vs) H s1:=by
  have hpl:ps.length≤N.length:=by have:=congrArg List.length S.pre;rw [List.length_take] at this;omega
  obtain ⟨h1,tk,rfl,hk⟩:=x.done
  have noA:∀ b:Addr,b ∉ (fV qt CX P w K mg base N qual scope f cd A outer s H E).ex:=fun b z=>absurd (show b∈([]:List Addr) from z) (by simp)
  refine ⟨⟨e0.mod,S.kind,rfl,rfl,Nat.le_refl _,fun y z c h1 h2=>?_,fun y hy=>?_,fun y c _ h=>?_,fun z=>hd (by cases qt with | false=>rfl | true=>cases z),Around.frames_deeper e0.frames,.inr ⟨rfl,rfl⟩,fun b z=>absurd z (noA b),e0.bs,e0.bsz,fun b _ _=>noA b,fun b z=>absurd z (noA b),e0.lK,e0.frf⟩,
    rfl,e0.bare,Un.kept hk,⟨_,x.toInCall.ns,fun i y v h1 h2 h3=>?_⟩,fun y c h=>⟨_,x.cell y c h⟩,e0.hok.fresh (Nat.le_refl _),fun y c h=>?_,fun p hp=>absurd (show p∈([]:List (Addr×Obj)) from hp) (by simp),e0.hok.kept hk,?_,e0.hnd,fun p hp=>absurd (show p∈([]:List (Addr×List V)) from hp) (by simp)⟩
  · exact name_of_addr x.apart (PySem.mem_of_lookup h1) (PySem.mem_of_lookup h2)
  · have hy:scope.names.lookup y=some .cell∨scope.names.lookup y=some .free:=hy
    rcases hy with hy | hy
    · exact vB hy
    · exact absurd rfl (S.amE _ (PySem.mem_of_lookup hy))
  · exact Nat.le_of_lt (x.above y c (PySem.mem_of_lookup h))
  · have hi:i < vs.length:=by
      unfold start at h2
      by_cases hi:i < vs.length
      · exact hi
      · rw [List.getElem?_append_right (by simpa using hi)] at h2
        rw [List.getElem?_replicate] at h2
        split at h2 <;> cases h2
    have ha:vs[i]?=some v:=by
      unfold start at h2
      rw [List.getElem?_append_left (by simpa using hi),List.getElem?_map] at h2
      cases e:vs[i]? with
      | none=>rw [e] at h2;cases h2
      | some a=>rw [e] at h2;cases h2;rfl
    obtain ⟨u,hu,rv⟩:=r.get ha
    have hp:ps[i]?=some y:=by
      rw [← S.pre,List.getElem?_take_of_lt (by omega)];exact h1
    have ndP:ps.Nodup:=by rw [← S.pre];exact S.nd.sublist (List.take_sublist _ _)
    refine ⟨u,rv,?_⟩
    rcases S.par y (List.mem_of_getElem? hp) with k | k
    · exact .inl ⟨k,wQ ndP hp hu k⟩
    · obtain ⟨c,e⟩:=vB (n:=s.heap.objs.size+1) k
      refine .inr ⟨.inl k,c,e,?_⟩
      have q:=x.cell y c e
      rw [a2M ndP hp hu (by show scope.names.lookup y≠_;rw [k];decide)] at q
      exact q
  · exact e0.hok.fresh (Nat.le_of_lt (x.above y c (PySem.mem_of_lookup h)))
  · unfold start
    show _=N.length
    rw [List.length_append,List.length_map,List.length_replicate]
    omega
theorem akE {CX:zP} {P:Program} {w:World} {K:PySem.W.Frag} {mg:Str→Option Value} {base:Heap} {k:Nat} {f:Addr} {name qual:Str} {params:Arguments} {body:List Stmt} {scope:Scope} {dV kV doc pm cdv ct oc:Value} {an od:Option Addr}
    {osl:Array (Option Value)} {N ps:List Str} {sp:Sp} (lk:K.lookup f=some ⟨oc,od,.func (PySem.W.fnOf name qual params body scope dV kV doc pm an cdv ct),osl⟩) (hcd:PySem.W.codeIn K cdv qual=true) (S:bF N ps scope)
    (len:∀ vs H Q E,sp vs H Q E→vs.length=ps.length)
    (hbody:∀ (A:Around) (outer:List Env) (s:Shared) (H:Hp) (vs:List V) (Q:VK) (E:XK),cH qt k (A.deeper (envOfC qual scope s.heap.objs.size f cdv))→sp vs H Q E →
      ∃ t,z8 (fV qt CX P w K mg base N qual scope f cdv A outer s H E) body t∧t { nx:=fun _ H'=>Q .non H',rt:=Q } (start N vs) H) :
    cR qt P w K mg base CX (k+1) f (PySem.W.fnOf name qual params body scope dV kV doc pm an cdv ct) ps sp:=by
  refine ⟨len,fun A outer s H args us vs Q E hr e0 hb r hsp=>?_⟩
  have hl:=len _ _ _ _ hsp
  have KX:K.In s.heap:=e0.mod.kin.keeps fun b o e=>(e0.bs b o e).1
  have lim:s.heap.NoLimit:=e0.mod.nolimit.keeps fun b o e=>(e0.bs b o e).1
  have hkind:∀ y∈ps.zip us,scope.names.lookup y.1=some .local∨(scope.names.lookup y.1=some .cell∧((cellsFrom (s.heap.objs.size+1) scope.names []).lookup y.1).isSome=true):=fun ⟨n,v⟩ hy=>by
    rcases S.par n (List.of_mem_zip hy).1 with q | q
    · exact .inl q
    · exact .inr ⟨q,PySem.W.cellsFrom_some _ _ _ (.inl q)⟩
  refine codeAny_call_function hr.depth (KX _ _ lk) rfl S.co S.gen rfl (PySem.W.codeRec_of KX hcd) (hb _ _ _ _ ?_)
  refine wpAny_newFunctionEnv_cells S.kind hkind fun env he s1 x=>?_
  subst he
  refine ⟨lim.keeps x.toInCall.keep,codeAny_func ?_⟩
  obtain ⟨t,ht,hq⟩:=hbody A outer s H vs Q E (hr.deeper _) hsp
  have I:Inv (fV qt CX P w K mg base N qual scope f cdv A outer s H E) [] (start N vs) H s1:=wR S hr.hd e0 hl r x
  refine wpAny_mono (@ht [] s1 (start N vs) H _ I hq ⟨fun z=>nomatch z⟩) (fun fl s' hs=>?_) fun e s' hs=>hs
  have fin:∀ {σ':St} {H':Hp} {v:V} {u:Value},Inv (fV qt CX P w K mg base N qual scope f cdv A outer s H E) [] σ' H' s'→RelV v u→Q v H'→CE outer P w H s Q u s' :=
    fun {σ' H' v u} J rv q=>⟨v,H',J.os,J.bare,J.base,J.hok,rv,q⟩
  cases fl with
  | ret u =>
    obtain ⟨v,σ',H',J,rv,q⟩:=hs
    exact fin J rv q
  | next =>
    obtain ⟨σ',H',J,q⟩:=hs
    exact fin (v:=V.non) (u:=Value.none) J rfl q
  | brk =>
    obtain ⟨_,_,_,q⟩:=hs
    exact False.elim q
  | cont =>
    obtain ⟨_,_,_,q⟩:=hs
    exact False.elim q
end L2
namespace L2
open PySem PySem.Spec PyProof.Rows
section
variable {X:Cx} {x:Str} {p pos:Pos} {e:Expr} {es:List Expr} {t:TA} {id T:String} {r:List V→Hp→VK→Prop}
end
end L2
namespace L2
open PySem PySem.Spec PyProof.Rows
section
variable {κ:Type} [DecidableEq κ]
def uK (kvs:List (κ×V)) (k:κ):Option V:=(kvs.find? fun kv=>decide (kv.1=k)).map (·.2)
def putK (kvs:List (κ×V)) (k:κ) (v:V):List (κ×V) :=
  if (kvs.any fun kv=>decide (kv.1=k))=true then kvs.map (fun kv=>if kv.1=k then (kv.1,v) else kv) else kvs++[(k,v)]
def a99 (kvs:List (κ×V)) (k:κ):List (κ×V):=kvs.filter fun kv=>decide (kv.1≠k)
theorem vC {p:κ×V} {r:List (κ×V)} {k:κ} (e:p.1=k):uK (p :: r) k=some p.2:=by simp [uK,List.find?_cons,e]
theorem vD {p:κ×V} {r:List (κ×V)} {k:κ} (e:¬ p.1=k):uK (p :: r) k=uK r k:=by simp [uK,List.find?_cons,e]
theorem zQ (k:κ):∀ kvs:List (κ×V),(kvs.any fun kv=>decide (kv.1=k))=(uK kvs k).isSome
  | []=>rfl
  | p :: r=>by
    rw [List.any_cons]
    by_cases e:p.1=k
    · simp only [vC e,decide_eq_true e,Bool.true_or,Option.isSome_some]
    · rw [vD e,decide_eq_false e,Bool.false_or];exact zQ k r
theorem xW (kvs:List (κ×V)) (k:κ) (v:V):(putK kvs k v).length≤kvs.length+1:=by
  unfold putK
  split
  · rw [List.length_map];omega
  · rw [List.length_append,List.length_cons,List.length_nil];omega
theorem yN.ab9 {o:Option V} {u:Option Value} (r:yN o u):o.isSome=u.isSome:=by
  cases o with
  | none=>cases u with
    | none=>rfl
    | some _=>exact (show False from r).elim
  | some _=>cases u with
    | none=>exact (show False from r).elim
    | some _=>rfl
theorem yN.getD {o:Option V} {u:Option Value} {d:V} {d':Value} (r:yN o u) (rd:RelV d d'):RelV (o.getD d) (u.getD d'):=by
  cases o with
  | none=>cases u with
    | none=>exact rd
    | some _=>exact (show False from r).elim
  | some _=>cases u with
    | none=>exact (show False from r).elim
    | some _=>exact r
theorem KV.val {kvs:List (κ×V)} {vs:List (κ×Value)} (r:KV kvs vs) (k:κ):yN (uK kvs k) (valueAt vs k):=by
  unfold KV at r
  induction r with
  | nil=>exact True.intro
  | @cons p q ps qs h t ih =>
    obtain ⟨h1,h2⟩:=h
    by_cases e:p.1=k
    · have e':q.1=k:=h1.symm.trans e
      have b:valueAt (q :: qs) k=some q.2:=by simp [valueAt,List.find?_cons,e']
      rw [vC e,b];exact h2
    · have e':¬ q.1=k:=fun z=>e (h1.trans z)
      have b:valueAt (q :: qs) k=valueAt qs k:=by simp [valueAt,List.find?_cons,e']
      rw [vD e,b];exact ih
theorem KV.any {kvs:List (κ×V)} {vs:List (κ×Value)} (r:KV kvs vs) (k:κ):(kvs.any fun kv=>decide (kv.1=k))=vs.any fun kv=>decide (kv.1=k):=by
  unfold KV at r
  induction r with
  | nil=>rfl
  | cons h t ih=>rw [List.any_cons,List.any_cons,ih,h.1]
theorem KV.repl {kvs:List (κ×V)} {vs:List (κ×Value)} (r:KV kvs vs) (k:κ) {y:V} {u:Value} (ry:RelV y u) :
    KV (kvs.map fun kv=>if kv.1=k then (kv.1,y) else kv) (vs.map fun kv=>if kv.1=k then (kv.1,u) else kv):=by
  unfold KV at r ⊢
  induction r with
  | nil=>exact .nil
  | @cons p q ps qs h t ih =>
    rw [List.map_cons,List.map_cons]
    refine .cons ?_ ih
    obtain ⟨h1,h2⟩:=h
    by_cases e:p.1=k
    · rw [if_pos e,if_pos (h1.symm.trans e)];exact ⟨h1,ry⟩
    · rw [if_neg e,if_neg (fun z=>e (h1.trans z))];exact ⟨h1,h2⟩
theorem KV.put {kvs:List (κ×V)} {vs:List (κ×Value)} (r:KV kvs vs) (k:κ) {y:V} {u:Value} (ry:RelV y u):KV (putK kvs k y) (stored vs k u):=by
  unfold putK stored
  rw [r.any k]
  by_cases e:(vs.any fun kv=>decide (kv.1=k))=true
  · rw [if_pos e,if_pos e];exact r.repl k ry
  · rw [if_neg e,if_neg e];exact Paired.snoc r ⟨rfl,ry⟩
theorem KV.drop {kvs:List (κ×V)} {vs:List (κ×Value)} (r:KV kvs vs) (k:κ):KV (a99 kvs k) (without vs k):=by
  unfold KV at r ⊢
  unfold a99 without
  induction r with
  | nil=>exact .nil
  | @cons p q ps qs h t ih =>
    obtain ⟨h1,h2⟩:=h
    rw [List.filter_cons,List.filter_cons]
    by_cases e:p.1=k
    · have a:¬ decide (p.1≠k)=true:=by simp [e]
      have b:¬ decide (q.1≠k)=true:=by simp [h1.symm.trans e]
      rw [if_neg a,if_neg b];exact ih
    · have e':¬ q.1=k:=fun z=>e (h1.trans z)
      have a:decide (p.1≠k)=true:=by simp [e]
      have b:decide (q.1≠k)=true:=by simp [e']
      rw [if_pos a,if_pos b];exact .cons ⟨h1,h2⟩ ih
theorem KV.length {kvs:List (κ×V)} {vs:List (κ×Value)} (r:KV kvs vs):kvs.length=vs.length:=Paired.length r
end
theorem a9A {P:Program} {w:World} {k:Key} {u:Value} (r:RelV (kV k) u):(c7 P w).is k u=true:=by
  cases k with
  | inl i=>obtain ⟨t,e⟩:=(show ∃ t,u=Value.int i t from r);subst e;exact a5X P w i t
  | inr x=>obtain ⟨t,e⟩:=(show ∃ t,u=Value.str x t from r);subst e;exact a5Y P w x t
theorem a2N {P:Program} {w:World}:∀ {ks:List Key} {us:List Value},Vals (ks.map kV) us→ItemsAre (c7 P w) ks us
  | [],_,r=>by rw [List.map_nil] at r;cases r;exact .nil
  | k :: ks,_,r=>by
    rw [List.map_cons] at r
    cases r with
    | cons h t=>exact .cons (a9A h) (a2N t)
abbrev KT (H:Hp):List (List Key×V)→List (List Key×Addr×Value)→Prop:=Paired fun p q=>p.1=q.1∧H q.2.1=some (.tup (p.1.map kV))∧RelV p.2 q.2.2
theorem KT.val {H:Hp} {kvs:List (List Key×V)} {xs:List (List Key×Addr×Value)} (r:KT H kvs xs) (k:List Key):yN (uK kvs k) ((atKey xs k).map (·.2)):=by
  induction r with
  | nil=>exact True.intro
  | @cons p q ps qs h t ih =>
    obtain ⟨h1,_,h2⟩:=h
    by_cases e:p.1=k
    · have e':q.1=k:=h1.symm.trans e
      have b:atKey (q :: qs) k=some q.2:=by simp [atKey,List.find?_cons,e']
      rw [vC e,b];exact h2
    · have e':¬ q.1=k:=fun z=>e (h1.trans z)
      have b:atKey (q :: qs) k=atKey qs k:=by simp [atKey,List.find?_cons,e']
      rw [vD e,b];exact ih
theorem KT.repl {H:Hp} {kvs:List (List Key×V)} {xs:List (List Key×Addr×Value)} (r:KT H kvs xs) (k:List Key) {y:V} {u:Value} (ry:RelV y u) :
    KT H (kvs.map fun kv=>if kv.1=k then (kv.1,y) else kv) (xs.map (putAt k u)):=by
  induction r with
  | nil=>exact .nil
  | @cons p q ps qs h t ih =>
    rw [List.map_cons,List.map_cons]
    refine .cons ?_ ih
    obtain ⟨h1,h2,h3⟩:=h
    unfold putAt
    by_cases e:p.1=k
    · rw [if_pos e,if_pos (h1.symm.trans e)];exact ⟨h1,h2,ry⟩
    · rw [if_neg e,if_neg (fun z=>e (h1.trans z))];exact ⟨h1,h2,h3⟩
theorem KT.put {H:Hp} {kvs:List (List Key×V)} {xs:List (List Key×Addr×Value)} (r:KT H kvs xs) (k:List Key) {b:Addr} {y:V} {u:Value} (hb:H b=some (.tup (k.map kV))) (ry:RelV y u) :
    KT H (putK kvs k y) (storedH xs k b u):=by
  have e:(kvs.any fun kv=>decide (kv.1=k))=(atKey xs k).isSome:=by
    rw [zQ,(r.val k).ab9,Option.isSome_map]
  unfold putK storedH
  rw [e]
  by_cases q:(atKey xs k).isSome=true
  · rw [if_pos q,if_pos q];exact r.repl k ry
  · rw [if_neg q,if_neg q];exact Paired.snoc r ⟨rfl,hb,ry⟩
theorem KT.keeps {H H':Hp} {kvs:List (List Key×V)} {xs:List (List Key×Addr×Value)} (r:KT H kvs xs) (ht:∀ b ys,H b=some (.tup ys)→H' b=some (.tup ys)):KT H' kvs xs :=
  Paired.alN r fun _ _ z=>⟨z.1,ht _ _ z.2.1,z.2.2⟩
section
variable {P:Program} {w:World} {H:Hp} {h:Heap} {a:Addr}
theorem akF {u:HO} (ok:nR P w H h) (e:Rd H a u):dO P w H h a u:=e.ok ok
theorem a65 {kvs:List (Key×V)} (ok:nR P w H h) (e:Rd H a (.dK kvs)):kvs.length≤sizeLine∧(a == sysModules)=false∧∃ vs,KV kvs vs∧h.DictOf (c7 P w) a vs :=
  show dO P w H h a (.dK kvs) from akF ok e
theorem aqU {kvs:List (Key×V)} (ok:nR P w H h) (e:H a=some (.dK kvs)):kvs.length≤sizeLine∧(a == sysModules)=false∧∃ vs,KV kvs vs∧h.DictOf (c7 P w) a vs:=a65 ok (.inl e)
theorem a3X {ks:List Key} (ok:nR P w H h) (e:H a=some (.tup (ks.map kV))):(tupleKind (c7 P w)).is h ks a:=by
  obtain ⟨_,its,r,o,h1,h2,n,h3⟩:=(show dO P w H h a (.tup (ks.map kV)) from ok a _ e)
  exact ⟨o,its.toArray,n,h1,h2,h3,by simpa using a2N r⟩
theorem a66 {kvs:List (List Key×V)} (ok:nR P w H h) (e:Rd H a (.dT kvs)):kvs.length≤sizeLine∧(a == sysModules)=false ∧
    ∃ xs,KT H kvs xs∧h.DictOfH (tupleKind (c7 P w)) a xs:=by
  obtain ⟨z,y,xs,r,o,es,ep,h1,h2,h3,h4,h5⟩:=(show dO P w H h a (.dT kvs) from akF ok e)
  refine ⟨z,y,xs,r,o,es,ep,h1,h2,h3,h4,fun x hx=>?_,h5⟩
  have all:∀ {l:List (List Key×V)} {m:List (List Key×Addr×Value)},KT H l m→∀ x∈m,(tupleKind (c7 P w)).is h x.1 x.2.1:=by
    intro l m q
    induction q with
    | nil=>intro x hx;exact nomatch hx
    | @cons p q ps qs hq t ih =>
      intro x hx
      rcases List.mem_cons.mp hx with e | hx
      · subst e
        exact a3X ok (by rw [← hq.1];exact hq.2.1)
      · exact ih x hx
  exact all r x hx
theorem aqV {kvs:List (List Key×V)} (ok:nR P w H h) (e:H a=some (.dT kvs)):kvs.length≤sizeLine∧(a == sysModules)=false ∧
    ∃ xs,KT H kvs xs∧h.DictOfH (tupleKind (c7 P w)) a xs:=a66 ok (.inl e)
end
def wU (H:Hp) (a:Addr) (y:V) (r:Option V):Prop :=
  (∃ kvs k,Rd H a (.dK kvs)∧y=kV k∧r=uK kvs k)∨∃ kvs k b,Rd H a (.dT kvs)∧y = .ref b∧H b=some (.tup (k.map kV))∧r=uK kvs k
def abA (H:Hp) (a:Addr) (y v:V) (H':Hp):Prop :=
  (∃ kvs k,H a=some (.dK kvs)∧y=kV k∧kvs.length < sizeLine∧H'=upd H a (.dK (putK kvs k v))) ∨
  ∃ kvs k b,H a=some (.dT kvs)∧y = .ref b∧H b=some (.tup (k.map kV))∧kvs.length < sizeLine∧H'=upd H a (.dT (putK kvs k v))
theorem wU.k {H:Hp} {a:Addr} {kvs:List (Key×V)} {k:Key} (e:H a=some (.dK kvs)):wU H a (kV k) (uK kvs k) := .inl ⟨kvs,k,.inl e,rfl,rfl⟩
theorem wU.t {H:Hp} {a b:Addr} {kvs:List (List Key×V)} {k:List Key} (e:H a=some (.dT kvs)) (eb:H b=some (.tup (k.map kV))):wU H a (.ref b) (uK kvs k) := .inr ⟨kvs,k,b,.inl e,rfl,eb,rfl⟩
theorem abA.k {H:Hp} {a:Addr} {kvs:List (Key×V)} {k:Key} {v:V} (e:H a=some (.dK kvs)) (hl:kvs.length < sizeLine):abA H a (kV k) v (upd H a (.dK (putK kvs k v))) := .inl ⟨kvs,k,e,rfl,hl,rfl⟩
theorem abA.t {H:Hp} {a b:Addr} {kvs:List (List Key×V)} {k:List Key} {v:V} (e:H a=some (.dT kvs)) (eb:H b=some (.tup (k.map kV))) (hl:kvs.length < sizeLine) :
    abA H a (.ref b) v (upd H a (.dT (putK kvs k v))) := .inr ⟨kvs,k,b,e,rfl,eb,hl,rfl⟩
section
variable {X:Cx} {pins:List (Addr×Obj)} {σ:St} {H:Hp} {s:Shared} {a:Addr} {y v:V} {u r:Value} {o:Option V} {A:Around} {E:Value→Shared→Prop}
theorem Inv.big (I:Inv X pins σ H s):sysModules < s.heap.objs.size:=by
  have h:mainGlobals < s.heap.objs.size:=(I.mod.glob.keeps I.bk).lt
  exact Nat.lt_trans (by decide) h
theorem abB {Q:Value→Shared→Prop} (hu:A.units+1 < cLine) (I:Inv X pins σ H s) (g:wU H a y (some v)) (ry:RelV y u) (h:∀ w' s',Inv X pins σ H s'→RelV v w'→Q w' s') :
    wpAny (model X.prog X.w) A (getItem (.ref a) u) Q E s:=by
  rcases g with ⟨kvs,k,e,ey,l⟩ | ⟨kvs,k,b,e,ey,eb,l⟩
  · subst ey
    obtain ⟨z,hd,vs,rel,dd⟩:=a65 I.hok e
    obtain ⟨w',hw,rw'⟩:=yN.some_of (v:=v) (o:=valueAt vs k) (by rw [l];exact rel.val k)
    exact wpAny_getItem_of (a9A ry) dd.mapOf hw (h w' _ (I.tok _) rw')
  · subst ey
    cases (show u=Value.ref b from ry)
    obtain ⟨z,hd,xs,rel,dd⟩:=a66 I.hok e
    obtain ⟨w',hw,rw'⟩:=yN.some_of (v:=v) (o:=(atKey xs k).map (·.2)) (by rw [l];exact rel.val k)
    obtain ⟨p,hp,hp2⟩:=Option.map_eq_some_iff.mp hw
    refine wpAny_getItem_heap (tupleKind_room_in1 hu) (a3X I.hok eb) dd hp ?_
    rw [hp2]
    exact h w' _ (I.tok _) rw'
theorem a9B {h':Heap} {t':Nat} {ob:HO} (I:Inv X pins σ H s) (mu:Mut (H a)) (hs:Heap.SameBut a s.heap h') (he:∃ q,h'.get? a=some q) (new:dO X.prog X.w (upd H a ob) h' a ob) :
    Inv X pins σ (upd H a ob) { s with heap:=h',toks:=t' } :=
  I.write (x:=a) (e:=a) mu (.inl rfl) (fun b q hb z=>(hs.2 b hb).trans z) he new
theorem amG {P:Program} {w:World} {H':Hp} {h':Heap} {kvs:List (Key×V)} {vs:List (Key×Value)} (z:kvs.length≤sizeLine) (hd:(a == sysModules)=false) (rel:KV kvs vs) (dd:h'.DictOf (c7 P w) a vs) :
    dO P w H' h' a (.dK kvs):=⟨z,hd,vs,rel,dd⟩
end
section
variable {X:Cx} {pins:List (Addr×Obj)} {σ:St} {H:Hp} {s:Shared} {a:Addr} {kvs:List (Key×V)} {k:Key} {u:Value} {A:Around} {E:Value→Shared→Prop}
end
def amH (i:Expr):Prop:=∀ ov iv,subscripted i false ov iv=operate [ov,iv] (getItem ov iv)
theorem ah3 {prog:Program} {w:World} {A:Around} {E:Value→Shared→Prop} {s:Shared} {env:Env} {value slice:Expr} {pos:Pos} {T id:String} {Q:Value→Shared→Prop}
    (hl:typeLookup (.type T) "__getitem__" = pure (some (.builtin id))) (hs:amH slice)
    (h:wpAny (model prog w) A (eval value env) (fun o s₁=>wpAny (model prog w) A (eval slice env) (fun i s₂=>s₂.TypeIs o T∧wpAny (model prog w) A (getItem o i) Q E s₂) E s₁) E s) :
    wpAny (model prog w) A (eval (.Subscript value slice pos) env) Q E s:=by
  refine Subscript_ (wpAny_mono h (fun o s₁ h₁=>wpAny_mono h₁ (fun i s₂ h₂=>?_) fun _ _ x=>x) fun _ _ x=>x)
  obtain ⟨hT,h₂⟩:=h₂
  unfold subscriptTail
  refine wpAny_bind ?_
  rw [getitemInPython_of_ne hT.not_modules]
  refine wpAny_bind (wpAny_specialOf hT hl ?_)
  have fin:wpAny (model prog w) A (subscripted slice false o i) (fun r s₃=>wpAny (model prog w) A (letTemporaryGo value o r >>= fun _=>pure r) Q E s₃) E s₂:=by
    rw [hs o i]
    exact wpAny_operating (wpAny_mono h₂ (fun r s₃ h₃=>wpAny_bind (wpAny_letTemporaryGo (wpAny_pure h₃))) fun _ _ x=>x)
  first
    | exact wpAny_pure (wpAny_bind fin)
    | exact wpAny_bind (wpAny_pure (wpAny_bind fin))
    | exact wpAny_bind fin
theorem a67 {X:Cx} {pins:List (Addr×Obj)} {σ:St} {H:Hp} {s:Shared} {a:Addr} {y:V} {o:Option V} (I:Inv X pins σ H s) (g:wU H a y o):s.TypeIs (.ref a) "dict" := by
  rcases g with ⟨kvs,k,e,_,_⟩ | ⟨kvs,k,b,e,_,_,_⟩
  · obtain ⟨_,_,vs,_,dd⟩:=a65 I.hok e
    exact dd.typeIs
  · obtain ⟨_,_,xs,_,dd⟩:=a66 I.hok e
    exact dd.typeIs
def aqW (td ty:TE):TE:=fun σ H Q=>td σ H fun x H1=>ty σ H1 fun y H2=>∃ a v,x = .ref a∧wU H2 a y (some v)∧Q v H2
section
variable {X:Cx} {o i e value:Expr} {pos pos' tpos:Pos} {td ty tv:TE}
theorem ah4 (hu:X.A.units+1 < cLine) (ho:PE X o td) (hi:PE X i ty) (hs:amH i):PE X (.Subscript o i pos) (aqW td ty):=by
  intro pins s σ H Q I h _tk
  refine ah3 PySem.F.slot_dict_getitem.lookup hs (cV (ho pins s σ H _ I h) fun u s1 ⟨x,H1,I1,rx,q1⟩=>cV (hi pins s1 σ H1 _ I1 q1) fun iv s2 ⟨y,H2,I2,ry,a,v,ex,g,q2⟩=>?_)
  subst ex
  obtain rfl:u=Value.ref a:=rx
  exact ⟨a67 I2 g,abB hu I2 g ry fun w' s3 I3 rw'=>⟨v,H2,I3,rw',q2⟩⟩
end
theorem ad0 {P:Program} {w:World} {H:Hp} (h:Heap) (hb:sysModules < h.objs.size):dO P w H (h.push { cls := .type "dict",data := .dict #[] }) h.objs.size (.dK []) :=
  ⟨Nat.zero_le _,beq_eq_false_iff_ne.mpr (Ne.symm (Nat.ne_of_lt hb)),[],.nil,Heap.DictOf.new h⟩
section
variable {X:Cx} {pos:Pos}
end
structure M2 (X:Cx) (o:Expr) (m:Str) (apos:Pos) (e f:Expr) (cpos:Pos):Prop where
  base:attributeBase o m X.env (eval o X.env)=eval o X.env
  few:((backTo cpos (starEach [e,f] X.env)).all (fun x=>!x.1)&&(backToKw cpos (keywordEach [] X.env)).all (fun x=>x.1.isSome)
    && decide (([e,f]:List Expr).length+([]:List Keyword).length+(if ([]:List Keyword).isEmpty then 0 else 1) < 30))=true
  line:(apos.endLine == cpos.line)=true
  trees:backTo cpos (starEach [e,f] X.env)=[(false,eval e X.env),(false,eval f X.env)]
def IsD (H:Hp) (a:Addr):Prop:=(∃ kvs,Rd H a (.dK kvs))∨∃ kvs,Rd H a (.dT kvs)
theorem amI {X:Cx} {pins:List (Addr×Obj)} {σ:St} {H:Hp} {s:Shared} {a:Addr} (I:Inv X pins σ H s) (d:IsD H a) :
    s.TypeIs (.ref a) "dict" ∧ (∀ b,Value.ref a = .ref b→∃ ob,s.heap.get? b=some ob∧ob.dict=none)∧(a == sysModules)=false:=by
  rcases d with ⟨kvs,e⟩ | ⟨kvs,e⟩
  · obtain ⟨_,hd,vs,_,dd⟩:=a65 I.hok e
    refine ⟨dd.typeIs,fun b q=>?_,hd⟩
    cases q
    obtain ⟨ob,_,_,h1,h2,_⟩:=dd
    exact ⟨ob,h1,h2.2.1⟩
  · obtain ⟨_,hd,xs,_,dd⟩:=a66 I.hok e
    refine ⟨dd.typeIs,fun b q=>?_,hd⟩
    cases q
    obtain ⟨ob,_,_,h1,h2,_⟩:=dd
    exact ⟨ob,h1,h2.2.1⟩
section
variable {X:Cx} {pins:List (Addr×Obj)} {σ:St} {H:Hp} {s:Shared} {a:Addr} {y d:V} {u r:Value} {o:Option V} {A:Around} {E:Value→Shared→Prop}
theorem amJ {Q:Value→Shared→Prop} (hu:A.units+1 < cLine) (I:Inv X pins σ H s) (g:wU H a y o) (ry:RelV y u) (rd:RelV d r) (h:∀ w' s',Inv X pins σ H s'→RelV (o.getD d) w'→Q w' s') :
    wpAny (model X.prog X.w) A (call (.builtin "dict.get") [.ref a,u,r]) Q E s:=by
  rcases g with ⟨kvs,k,e,ey,l⟩ | ⟨kvs,k,b,e,ey,eb,l⟩
  · subst ey
    obtain ⟨z,hd,vs,rel,dd⟩:=a65 I.hok e
    refine call_meetsIn PySem.F.slot_dict_get dd.typeIs PySem.F.entry_dict_get (PySem.F.args_dict_get_3 _ _ _) (meets_dict_get_default (c7 X.prog X.w) a (a9A ry) hd r) ⟨_,dd.mapOf,h _ _ (I.tok _) ?_⟩
    rw [l]
    exact (rel.val k).getD rd
  · subst ey
    cases (show u=Value.ref b from ry)
    obtain ⟨z,hd,xs,rel,dd⟩:=a66 I.hok e
    refine call_meetsIn PySem.F.slot_dict_get dd.typeIs PySem.F.entry_dict_get (PySem.F.args_dict_get_3 _ _ _) (meetsH_dict_get_default (tupleKind (c7 X.prog X.w)) a b hd r) ⟨tupleKind_room_in1 hu,k,xs,a3X I.hok eb,dd,h _ _ (I.tok _) ?_⟩
    rw [l]
    exact (rel.val k).getD rd
end
def amK (td ty tx:TE):TE:=fun σ H Q=>td σ H fun x H1=>∃ a,x = .ref a∧IsD H1 a∧ty σ H1 fun y H2=>tx σ H2 fun z H3=>∃ o,wU H3 a y o∧Q (o.getD z) H3
section
variable {X:Cx} {o e f:Expr} {apos cpos:Pos} {td ty tx:TE}
theorem ad1 (hu:X.A.units+1 < cLine) (ho:PE X o td) (he:PE X e ty) (hf:PE X f tx) (m:M2 X o "get" apos e f cpos):PE X (.Call (.Attribute o "get" apos) [e,f] [] cpos) (amK td ty tx):=by
  intro pins s σ H Q I h _tk
  refine wpAny_Call_method m.base m.few m.line PySem.F.plainAttrs_dict PySem.F.slot_dict_get PySem.F.type_dict_get (cV (ho pins s σ H _ I h) fun u s1 ⟨x,H1,I1,rx,a,ex,d,q1⟩=>?_)
  subst ex
  obtain rfl:u=Value.ref a:=rx
  obtain ⟨t1,t2,_⟩:=amI I1 d
  refine ⟨t1,t2,?_⟩
  rw [m.trees]
  refine Calls.callWith_builtin rfl (Calls.evalArgs_plain (Calls.spliced_cons (cV (he pins s1 σ H1 _ I1 q1) fun iv s2 ⟨y,H2,I2,ry,q2⟩ =>
    Calls.spliced_cons (cV (hf pins s2 σ H2 _ I2 q2) fun fv s3 ⟨z,H3,I3,rz,ov,g,q3⟩=>Calls.spliced_nil ?_))))
  exact amJ hu I3 g ry rz fun w' s4 I4 rw'=>⟨_,H3,I4,rw',q3⟩
end
section
variable {X:Cx} {pins:List (Addr×Obj)} {σ:St} {H:Hp} {s:Shared} {a:Addr} {kvs:List (Key×V)} {A:Around} {E:Value→Shared→Prop}
end
section
variable {X:Cx} {pins:List (Addr×Obj)} {σ:St} {H:Hp} {s:Shared} {a:Addr} {y:V} {u:Value} {A:Around} {E:Value→Shared→Prop}
end
end L2
namespace HT
open PySem PyProof.Rows
section
open PySem.SeqAt
open PySem.AutoSeq1 (wpAny_loadPart')
open PySem.MeetsSeq PySem.MeetsSeq2 PySem.MeetsSeq3
end
section
variable {prog:Program} {w:World} {A:Around} {E:Value→Shared→Prop} {s:Shared}
theorem ah5 {t b:Addr} {vs ws:List Value} {Q:Value→Shared→Prop} (ht:IsTup s.heap t vs.toArray) (hb:IsTup s.heap b ws.toArray) (hv:vs≠[])
    (h1:ws=[]→Q (.ref t) s) (h2:ws≠[]→Q (.ref s.heap.objs.size) { s with heap:=s.heap.push { cls := .type "tuple",data := .seq (vs++ws).toArray } })
    (hsz:vs.length+ws.length≤sizeLine):wpAny (model prog w) A (binaryOp .Add (.ref t) (.ref b)) Q E s:=by
  obtain ⟨⟨cls,dd,data,sl⟩,ho,hc,n,hd⟩:=id ht
  obtain ⟨⟨cls2,dd2,data2,sl2⟩,ho2,hc2,n2,hd2⟩:=id hb
  simp only at hc hd hc2 hd2
  subst hc hd hc2 hd2
  have e:vs.toArray++ws.toArray=(vs++ws).toArray:=by simp
  by_cases hw:ws=[]
  · exact concat_meets ⟨_,ho,rfl⟩ ⟨_,ho2,rfl⟩ noFill_tuple_add seq_tuple_add PySem.F.slot_tuple_add PySem.F.entry_tuple_add (PySem.F.args_tuple_add_2 _ _)
      (tuple_addW1 t b vs.toArray ws.toArray n n2 dd dd2 sl sl2 (by simpa using hv) (by simp [hw])) ⟨ho,ho2,h1 hw⟩
  · refine concat_meets ⟨_,ho,rfl⟩ ⟨_,ho2,rfl⟩ noFill_tuple_add seq_tuple_add PySem.F.slot_tuple_add PySem.F.entry_tuple_add (PySem.F.args_tuple_add_2 _ _)
      (tuple_addW2 t b vs.toArray ws.toArray n n2 dd dd2 sl sl2 (by simpa using hv) (by simpa using hw) (by rw [List.size_toArray,List.size_toArray];exact hsz)) ⟨ho,ho2,?_⟩
    rw [e]
    exact h2 hw
def iC (n d:Nat):Option Int→Nat
  | none=>d
  | some v=>if v < 0 then (v+(n:Int)).toNat else min v.toNat n
theorem ad2 (n d:Nat):iC n d none=d:=rfl
theorem ah6 (n d k:Nat):iC n d (some (k:Int))=min k n:=by
  show (if (k:Int) < 0 then ((k:Int)+(n:Int)).toNat else min (k:Int).toNat n)=min k n
  rw [if_neg (by omega),Int.toNat_natCast]
theorem amL (n d:Nat) (hd:d≤n) (o:Option Int):iC n d o≤n:=by
  cases o with
  | none=>exact hd
  | some v =>
    show (if v < 0 then (v+(n:Int)).toNat else min v.toNat n)≤n
    by_cases hv:v < 0
    · rw [if_pos hv];omega
    · rw [if_neg hv];exact Nat.min_le_right _ _
theorem a9C (v:Int) (n d:Nat):(if v < 0 then max (v+(n:Int)) 0 else min v (n:Int))=((iC n d (some v):Nat):Int):=by
  show (if v < 0 then max (v+(n:Int)) 0 else min v (n:Int))=(((if v < 0 then (v+(n:Int)).toNat else min v.toNat n):Nat):Int)
  by_cases hv:v < 0
  · simp only [if_pos hv];omega
  · simp only [if_neg hv];omega
theorem a7Z (lo hi:Option Int) (n:Nat):Builtin.Slice.sliceAdjust lo hi 1 (n:Int)=(((iC n 0 lo:Nat):Int),((iC n n hi:Nat):Int)):=by
  have h1:¬ ((1:Int) < 0):=by omega
  unfold Builtin.Slice.sliceAdjust
  simp only [h1,if_false]
  refine Prod.ext ?_ ?_
  · cases lo with
    | none=>rfl
    | some v=>exact a9C v n 0
  · cases hi with
    | none=>rfl
    | some v=>exact a9C v n n
theorem a80 (i j:Nat):Builtin.Slice.slicePlaces (i:Int) (j:Int) 1=j - i:=by
  unfold Builtin.Slice.slicePlaces
  have h1:(1:Int) > 0:=by omega
  simp only [h1,if_true,Int.ediv_one]
  split <;> omega
theorem zR {v:Value} {o:Option Int} {Q:Option Int→Shared→Prop} (p:IsPart v o) (h:Q o s):wpAny (model prog w) A (Builtin.Slice.slicePartIndex v) Q E s:=by
  cases p with
  | none=>exact slicePart_none h
  | int i t=>exact slicePart_int h
theorem wV {sl:Addr} {vl vu:Value} {lo hi:Option Int} {n:Nat} {Q:Int×Int×Nat→Shared→Prop} (hs:s.heap.IsSliceOf sl vl vu .none) (pl:IsPart vl lo) (pu:IsPart vu hi)
    (h:Q (((iC n 0 lo:Nat):Int),1,iC n n hi - iC n 0 lo) s):wpAny (model prog w) A (Builtin.Slice.sliceApplied (.ref sl) (pure (n:Int))) Q E s:=by
  obtain ⟨os,hos,hcs,hds⟩:=id hs
  unfold Builtin.Slice.sliceApplied Builtin.Slice.sliceFields
  refine wpAny_bind (wpAny_bind (wpAny_field hos hds (x:=vl) rfl (wpAny_bind (wpAny_field hos hds (x:=vu) rfl (wpAny_bind (wpAny_field hos hds (x := .none) rfl (wpAny_pure ?_)))))))
  refine wpAny_bind (slicePart_none ?_)
  show wpAny _ _ (if ((1:Int) == 0)=true then _ else _) _ _ s
  rw [if_neg (by decide)]
  refine wpAny_bind (zR pl (wpAny_bind (zR pu (wpAny_bind (wpAny_pure ?_)))))
  show wpAny _ _ (match Builtin.Slice.sliceAdjust lo hi 1 (n:Int) with | (lo,hi)=>pure (lo,(1:Int),Builtin.Slice.slicePlaces lo hi 1)) _ _ s
  rw [a7Z lo hi n]
  show wpAny _ _ (pure (((iC n 0 lo:Nat):Int),(1:Int),Builtin.Slice.slicePlaces ((iC n 0 lo:Nat):Int) ((iC n n hi:Nat):Int) 1)) _ _ s
  rw [a80]
  exact wpAny_pure h
theorem ad3 (xs:Array Value) (i k:Nat):((List.range k).filterMap fun (m:Nat)=>xs[((i:Int)+(m:Int) * 1).toNat]?).toArray=((xs.toList.drop i).take k).toArray:=by
  have e:(fun (m:Nat)=>xs[((i:Int)+(m:Int) * 1).toNat]?)=fun m=>xs[i+m]?:=by
    funext m
    have:((i:Int)+(m:Int) * 1).toNat=i+m:=by omega
    rw [this]
  rw [e]
  have:=pick_run xs i k
  rw [List.filterMap_map] at this
  have e2:((fun x=>xs[x]?) ∘ fun x=>i+x)=fun m=>xs[i+m]?:=rfl
  rw [e2] at this
  rw [this]
theorem vG {t sl:Addr} {items:Array Value} {vl vu:Value} {lo hi:Option Int} {Q:Value→Shared→Prop} (ht:IsTup s.heap t items) (hs:s.heap.IsSliceOf sl vl vu .none) (pl:IsPart vl lo) (pu:IsPart vu hi)
    (hw:¬ (iC items.size 0 lo=0∧iC items.size items.size hi=items.size))
    (h:Q (.ref s.heap.objs.size) { s with heap:=s.heap.push { cls := .type "tuple",data := .seq ((items.toList.drop (iC items.size 0 lo)).take (iC items.size items.size hi - iC items.size 0 lo)).toArray } })
    (hsz:items.size≤sizeLine):wpAny (model prog w) A (getItem (.ref t) (.ref sl)) Q E s:=by
  have a9D:sizeOk (.seq ((items.toList.drop (iC items.size 0 lo)).take (iC items.size items.size hi - iC items.size 0 lo)).toArray):=by
    show ((items.toList.drop (iC items.size 0 lo)).take (iC items.size items.size hi - iC items.size 0 lo)).toArray.size≤sizeLine
    rw [List.size_toArray,List.length_take,List.length_drop,Array.length_toList]
    omega
  have hj:iC items.size items.size hi≤items.size:=amL _ _ (Nat.le_refl _) hi
  obtain ⟨os,hos,hcs,hds⟩:=id hs
  have hTs:s.TypeIs (.ref sl) "slice" := ⟨os,hos,hcs⟩
  unfold getItem
  try with_reducible refine wpAny_holding ?_
  first | refine wpAny_bind (wpAny_pure ?_) | skip
  refine wpAny_bind (wpAny_sequenceKey ht.typeIs (by decide) ?_)
  refine wpAny_bind (wpAny_callSpecial?_slot (name:=Str.ofString "__getitem__") ht.typeIs PyProof.Rows.slot_tuple_getitem
    (wpAny_call_entry PyProof.Rows.slot_tuple_getitem ht.typeIs entry_tuple_getitem ?_ (args_tuple_getitem _ _)))
  show wpAny _ _ (Builtin.Tuple.tupleItemsOf (.ref t) >>= _) _ _ s
  refine wpAny_bind (tupleItemsOf_ ht ?_)
  refine wpAny_bind (wpAny_typeOf hTs ?_)
  rw [if_pos (by decide)]
  refine wpAny_bind (wV hs pl pu ?_)
  have hno:¬ ((((iC items.size 0 lo:Nat):Int) == 0&&(1:Int) == 1&&(iC items.size items.size hi - iC items.size 0 lo) == items.size)=true):=by
    intro q
    rw [Bool.and_eq_true,Bool.and_eq_true] at q
    have q1:((iC items.size 0 lo:Nat):Int)=0:=eq_of_beq q.1.1
    have q2:iC items.size items.size hi - iC items.size 0 lo=items.size:=eq_of_beq q.2
    exact hw ⟨by omega,by omega⟩
  show wpAny _ _ (if (((iC items.size 0 lo:Nat):Int) == 0&&(1:Int) == 1&&(iC items.size items.size hi - iC items.size 0 lo) == items.size)=true then _ else _) _ _ s
  rw [if_neg hno,ad3]
  first
    | exact wpAny_bind (m:=Builtin.Tuple.tupleExact _) (wpAny_newObj_type (wpAny_pure ⟨_,rfl,wpAny_pure h⟩) a9D)
    | exact wpAny_bind (m:=Builtin.Tuple.tupleExact _) (wpAny_newObj_type (wpAny_bind (wpAny_pure (wpAny_pure ⟨_,rfl,wpAny_pure h⟩))) a9D)
    | exact wpAny_bind (wpAny_bind (m:=Builtin.Tuple.tupleExact _) (wpAny_newObj_type (wpAny_pure (wpAny_pure ⟨_,rfl,wpAny_pure h⟩)) a9D))
    | exact wpAny_bind (wpAny_bind (m:=Builtin.Tuple.tupleExact _) (wpAny_newObj_type (wpAny_pure ⟨_,rfl,wpAny_pure h⟩) a9D))
end
end HT
namespace L2
open PySem PySem.Spec PyProof.Rows
abbrev TO:=St→Hp→(Option Int→Hp→Prop)→Prop
def PO (X:Cx) (e:Option Expr) (t:TO):Prop :=
  ∀ (pins:List (Addr×Obj)) (s:Shared) (σ:St) (H:Hp) (Q:Option Int→Hp→Prop),Inv X pins σ H s→t σ H Q →
    [Tk X.need s]→wpAny (model X.prog X.w) X.A (evalPart e X.env) (fun u s'=>∃ o H',Inv X pins σ H' s'∧IsPart u o∧Q o H') X.xe s
def ah7:TO:=fun _ H Q=>Q none H
def aqX (t:TE):TO:=fun σ H Q=>t σ H fun x H1=>∃ i,x = .int i∧Q (some i) H1
section
variable {X:Cx} {e:Expr} {te:TE} {lo hi:Option Expr} {tl th:TO} {pos p2:Pos}
theorem ah8:PO X none ah7:=by
  intro pins s σ H Q I h _tk
  rw [evalPart_none]
  exact wpAny_pure ⟨none,H,I,.none,h⟩
theorem ah9 (h:PE X e te):PO X (some e) (aqX te):=by
  intro pins s σ H Q I hw
  rw [evalPart_some]
  refine cV (h pins s σ H _ I hw) fun u s1 ⟨x,H1,I1,r1,q1⟩=>?_
  obtain ⟨i,rfl,q⟩:=q1
  obtain ⟨t,rfl⟩:=r1
  exact ⟨some i,H1,I1,.int i t,q⟩
def SlR (X:Cx) (r:V→Option Int→Option Int→Hp→VK→Prop):Prop :=
  ∀ (pins:List (Addr×Obj)) (s:Shared) (σ:St) (H:Hp) (x:V) (v vl vu:Value) (lo hi:Option Int) (sl:Addr) (Q:VK),Inv X pins σ H s→RelV x v→s.heap.IsSliceOf sl vl vu .none→IsPart vl lo→IsPart vu hi→r x lo hi H Q →
    ∃ T id,typeLookup (.type T) "__getitem__" = pure (some (.builtin id))∧s.TypeIs v T∧wpAny (model X.prog X.w) X.A (getItem v (.ref sl)) (EP X pins σ Q) X.xe s
theorem SlR.or {r r':V→Option Int→Option Int→Hp→VK→Prop} (h:SlR X r) (h':SlR X r'):SlR X (fun x lo hi H Q=>r x lo hi H Q∨r' x lo hi H Q):=by
  intro pins s σ H x v vl vu lo hi sl Q I rx hs pl pu q
  rcases q with q | q
  · exact h pins s σ H x v vl vu lo hi sl Q I rx hs pl pu q
  · exact h' pins s σ H x v vl vu lo hi sl Q I rx hs pl pu q
def tSl (r:V→Option Int→Option Int→Hp→VK→Prop) (te:TE) (tl th:TO):TE:=fun σ H Q=>te σ H fun x H1=>tl σ H1 fun l H2=>th σ H2 fun u H3=>r x l u H3 Q
theorem ad4 {r:V→Option Int→Option Int→Hp→VK→Prop} (hr:SlR X r) (he:PE X e te) (hl:PO X lo tl) (hu:PO X hi th):PE X (.Subscript e (.Slice lo hi none p2) pos) (tSl r te tl th):=by
  intro pins s σ H Q I h _tk
  refine Subscript_ (cV (he pins s σ H _ I h) fun v s1 ⟨x,H1,I1,r1,q1⟩=>?_)
  refine wpAny_Slice (cV (hl pins s1 σ H1 _ I1 q1) fun vl s2 ⟨l,H2,I2,pl,q2⟩=>cV (hu pins s2 σ H2 _ I2 q2) fun vu s3 ⟨u,H3,I3,pu,q3⟩=>?_)
  rw [evalPart_none]
  refine wpAny_pure ?_
  have I4:Inv X pins σ H3 { s3 with heap:=s3.heap.push { cls := .type "slice",data := .fields #[vl,vu,.none] } }:=I3.kept (t':=s3.toks) fun b ob q=>Heap.get?_push_of_some _ q
  obtain ⟨T,id,hT,ht,hg⟩:=hr pins { s3 with heap:=s3.heap.push { cls := .type "slice",data := .fields #[vl,vu,.none] } } σ H3 x v vl vu l u s3.heap.objs.size Q I4 r1 (Heap.IsSliceOf.new ..) pl pu q3
  show wpAny (model X.prog X.w) X.A (subscriptTail e (.Slice lo hi none p2) v (.ref s3.heap.objs.size)) (EP X pins σ Q) X.xe { s3 with heap:=s3.heap.push { cls := .type "slice",data := .fields #[vl,vu,.none] } }
  exact tail_any (ops:=[.ref s3.heap.objs.size,v]) ht hT hg (by with_unfolding_all rfl)
def a1R (xs:List V) (lo hi:Option Int):List V:=(xs.drop (HT.iC xs.length 0 lo)).take (HT.iC xs.length xs.length hi - HT.iC xs.length 0 lo)
theorem xX (xs:List V) (lo hi:Option Int):(a1R xs lo hi).length≤xs.length:=by
  unfold a1R
  rw [List.length_take,List.length_drop]
  omega
def aw3 (K:PySem.W.Frag):V→Option Int→Option Int→Hp→VK→Prop:=fun x lo hi H Q=>∃ a xs,x = .ref a∧rD K H a xs ∧
  ¬ (HT.iC xs.length 0 lo=0∧HT.iC xs.length xs.length hi=xs.length)∧∀ p,H p=none→Q (.ref p) (upd H p (.tup (a1R xs lo hi)))
theorem amM:SlR X (aw3 X.K):=by
  intro pins s σ H x v vl vu lo hi sl Q I rx hs pl pu h
  obtain ⟨a,xs,rfl,hx,hw,q⟩:=h
  cases rx
  obtain ⟨its,r,ht,hz⟩:=I.tuple hx
  have hlen:its.toArray.size=xs.length:=by rw [List.size_toArray];exact r.length.symm
  refine ⟨"tuple",_,PyProof.Rows.slot_tuple_getitem.lookup,ht.typeIs,?_⟩
  refine HT.vG ht hs pl pu (by rw [hlen];exact hw) ?_ (by rw [hlen];exact hz)
  rw [hlen]
  refine ⟨.ref s.heap.objs.size,_,I.laid (t':=s.toks) (o := .tup (a1R xs lo hi)) (fun b ob q=>Heap.get?_push_of_some _ q) (Nat.le_refl _) ?_,rfl,q _ (I.hok.fresh (Nat.le_refl _))⟩
  exact ⟨Nat.le_trans (xX xs lo hi) hz,_,(r.drop (HT.iC xs.length 0 lo)).take (HT.iC xs.length xs.length hi - HT.iC xs.length 0 lo),IsTup.new _ _⟩
def aqY (K:PySem.W.Frag):R2:=fun x y H Q=>∃ a b xs ys,x = .ref a∧y = .ref b∧rD K H a xs∧rD K H b ys∧xs≠[]∧xs.length+ys.length≤sizeLine ∧
  (ys=[]→Q (.ref a) H)∧(ys≠[]→∀ p,H p=none→Q (.ref p) (upd H p (.tup (xs++ys))))
theorem Vals.vH {xs:List V} {us:List Value} (r:Vals xs us):us=[]↔xs=[]:=by
  cases r with
  | nil=>simp
  | cons _ _=>simp
theorem ahA:qR X (binaryOp .Add) (aqY X.K):=by
  intro pins s σ H x y v u Q I rx ry h
  obtain ⟨a,b,xs,ys,rfl,rfl,ha,hb,hx,hz,q1,q2⟩:=h
  cases rx
  cases ry
  obtain ⟨its,r1,p1,_⟩:=I.tuple ha
  obtain ⟨its2,r2,p2,_⟩:=I.tuple hb
  refine HT.ah5 p1 p2 (fun z=>hx (r1.vH.mp z)) (fun z=>⟨.ref a,H,I,rfl,q1 (r2.vH.mp z)⟩) (fun z=>?_) (by rw [← r1.length,← r2.length];exact hz)
  refine ⟨.ref s.heap.objs.size,_,I.laid (t':=s.toks) (o := .tup (xs++ys)) (fun b ob q=>Heap.get?_push_of_some _ q) (Nat.le_refl _) ?_,rfl,q2 (fun w=>z (r2.vH.mpr w)) _ (I.hok.fresh (Nat.le_refl _))⟩
  exact ⟨by rw [List.length_append];exact hz,_,r1.append r2,IsTup.new _ _⟩
end
end L2
namespace L2
open PySem PySem.Spec PyProof.Rows
def ixN (n:Nat) (i:Int):Option Nat:=if 0≤i then (if i < n then some i.toNat else none) else if -(n:Int)≤i then some (i+n).toNat else none
def uL {α:Type} (xs:List α) (i:Int):Option α:=(ixN xs.length i).bind fun j=>xs[j]?
theorem ahB {n:Nat} {i:Int} {j:Nat} (h:ixN n i=some j):seqIndex? i n=some j∧j < n∧-(n:Int)≤i∧i < n:=by
  unfold ixN at h
  by_cases h0:0≤i
  · rw [if_pos h0] at h
    by_cases h1:i < n
    · rw [if_pos h1] at h
      have e:i.toNat=j:=Option.some.inj h
      exact ⟨by rw [seqIndex_of h0 h1,e],by omega,by omega,h1⟩
    · rw [if_neg h1] at h;cases h
  · rw [if_neg h0] at h
    by_cases h1:-(n:Int)≤i
    · rw [if_pos h1] at h
      have e:(i+n).toNat=j:=Option.some.inj h
      exact ⟨by rw [seqIndex_neg (by omega) h1,e],by omega,h1,by omega⟩
    · rw [if_neg h1] at h;cases h
theorem a3Y {α:Type} {xs:List α} {i:Int} {v:α} (h:uL xs i=some v):∃ j,seqIndex? i xs.length=some j∧xs[j]?=some v∧j < xs.length∧-(xs.length:Int)≤i∧i < xs.length:=by
  unfold uL at h
  cases e:ixN xs.length i with
  | none=>rw [e] at h;cases h
  | some j =>
    rw [e] at h
    obtain ⟨h1,h2,h3,h4⟩:=ahB e
    exact ⟨j,h1,h,h2,h3,h4⟩
def a3Z (b:Expr):Prop:=∀ o i,subscripted b false o i=operate [o,i] (getItem o i)
def IxR (X:Cx) (r:R2):Prop :=
  ∀ (value slice:Expr) (pins:List (Addr×Obj)) (s:Shared) (σ:St) (H:Hp) (x y:V) (v u:Value) (Q:VK),Inv X pins σ H s→RelV x v→RelV y u→r x y H Q →
    subscripted slice false v u=operate [v,u] (getItem v u)→wpAny (model X.prog X.w) X.A (subscriptTail value slice v u) (EP X pins σ Q) X.xe s
def MtR (X:Cx) (id:String) (r:V→List V→Hp→VK→Prop):Prop :=
  ∀ (pins:List (Addr×Obj)) (s:Shared) (σ:St) (H:Hp) (x:V) (xs:List V) (v:Value) (us:List Value) (Q:VK),Inv X pins σ H s→RelV x v→Vals xs us→r x xs H Q →
    wpAny (model X.prog X.w) X.A (call (.builtin id) (v :: us)) (EP X pins σ Q) X.xe s
section
variable {X:Cx} {a b:Expr} {ta tb:TE} {pos:Pos}
theorem IxR.or {r r':R2} (h:IxR X r) (h':IxR X r'):IxR X (fun x y H Q=>r x y H Q∨r' x y H Q):=by
  intro value slice pins s σ H x y v u Q I rx ry q hs
  rcases q with q | q
  · exact h value slice pins s σ H x y v u Q I rx ry q hs
  · exact h' value slice pins s σ H x y v u Q I rx ry q hs
theorem MtR.or {id:String} {r r':V→List V→Hp→VK→Prop} (h:MtR X id r) (h':MtR X id r'):MtR X id (fun x xs H Q=>r x xs H Q∨r' x xs H Q):=by
  intro pins s σ H x xs v us Q I rx rs q
  rcases q with q | q
  · exact h pins s σ H x xs v us Q I rx rs q
  · exact h' pins s σ H x xs v us Q I rx rs q
theorem ar0 {r:R2} (hr:IxR X r) (ha:PE X a ta) (hb:PE X b tb) (hs:a3Z b):PE X (.Subscript a b pos) (tOp r ta tb):=by
  intro pins s σ H Q I h _tk
  exact Subscript_ (am2 ha hb I h fun v u s2 x y H2 I2 rx ry q=>hr a b pins s2 σ H2 x y v u Q I2 rx ry q (hs _ _))
def ar3 (K:PySem.W.Frag):R2:=fun x y H Q=>∃ p xs i v,x = .ref p∧y = .int i∧tX K H p xs∧uL xs i=some v∧Q v H
def ar4 (K:PySem.W.Frag):R2:=fun x y H Q=>∃ p xs i v,x = .ref p∧y = .int i∧rD K H p xs∧uL xs i=some v∧Q v H
def ar5:R2:=fun x y H Q=>∃ z i c,x = .str z∧y = .int i∧z.length≤sizeLine∧uL z.cps.toList i=some c∧Q (.str ⟨#[c]⟩) H
theorem ahD:IxR X (ar3 X.K):=by
  intro value slice pins s σ H x y v u Q I rx ry h hs
  obtain ⟨p,xs,i,z,rfl,rfl,hq,he,q⟩:=h
  cases rx
  obtain ⟨t,rfl⟩:=ry
  obtain ⟨its,r,pl,hz⟩:=I.list hq
  obtain ⟨j,h1,h2,h3,h4,h5⟩:=a3Y he
  obtain ⟨w,ew,rw'⟩:=r.get h2
  have hl:=r.length
  have hn:=zO
  have fin:EP X pins σ Q w s:=⟨z,H,I,rw',q⟩
  by_cases h0:0≤i
  · have hj:i.toNat=j:=by
      rw [seqIndex_of h0 h5] at h1
      exact Option.some.inj h1
    exact item_listR pl.isList h0 (by omega) (by rw [hj];simpa using ew) fin hs
  · have hj:(i+(its.toArray.size:Int)).toNat=j:=by
      rw [seqIndex_neg (by omega) h4] at h1
      rw [List.size_toArray,← hl]
      exact Option.some.inj h1
    exact subscriptTail_builtinR (x:=w) pl.isList.typeIs slot_list_getitem.lookup
      (wpAny_getItem_list_neg (Q:=fun r s'=>r=w∧EP X pins σ Q r s') pl.isList (by omega) (by rw [List.size_toArray] <;> omega) (by omega) (by rw [hj];simpa using ew) ⟨rfl,fin⟩) hs
theorem amN:IxR X (ar4 X.K):=by
  intro value slice pins s σ H x y v u Q I rx ry h hs
  obtain ⟨p,xs,i,z,rfl,rfl,hq,he,q⟩:=h
  cases rx
  obtain ⟨t,rfl⟩:=ry
  obtain ⟨its,r,pl,hz⟩:=I.tuple hq
  obtain ⟨j,h1,h2,h3,h4,h5⟩:=a3Y he
  obtain ⟨w,ew,rw'⟩:=r.get h2
  have hl:=r.length
  have hn:=zO
  have fin:EP X pins σ Q w s:=⟨z,H,I,rw',q⟩
  exact subscriptTail_builtinR (x:=w) pl.typeIs slot_tuple_getitem.lookup
    (getItem_tuple (j:=j) (Q:=fun r s'=>r=w∧EP X pins σ Q r s') pl (by omega) (by omega) (by rw [List.size_toArray,← hl];exact h1) (by simpa using ew) ⟨rfl,fin⟩) hs
theorem amO:IxR X ar5:=by
  intro value slice pins s σ H x y v u Q I rx ry h hs
  obtain ⟨z,i,c,rfl,rfl,hz,he,q⟩:=h
  obtain ⟨t,rfl⟩:=rx
  obtain ⟨t',rfl⟩:=ry
  obtain ⟨j,h1,h2,h3,h4,h5⟩:=a3Y he
  have hl:z.cps.toList.length=z.length:=by simp [Str.length]
  rw [hl] at h1 h4 h5
  have hn:=zO
  exact tail_any (typeIs_str s z t) slot_str_getitem.lookup (getItem_str (c:=c) (by
    have e1:decide (i < -(2 ^ 63:Int))=false:=decide_eq_false (by omega)
    have e2:decide (i≥2 ^ 63)=false:=decide_eq_false (by omega)
    rw [e1,e2,Bool.or_false]) (by rw [h1];simpa using h2) ⟨.str ⟨#[c]⟩,H,I.tok _,⟨_,rfl⟩,q⟩) hs
def rIx (K:PySem.W.Frag):R2:=fun x y H Q=>ar3 K x y H Q∨ar4 K x y H Q∨ar5 x y H Q
theorem amP:IxR X (rIx X.K):=ahD.or (amN.or amO)
theorem Inv.lst {pins:List (Addr×Obj)} {σ:St} {H:Hp} {s:Shared} {p:Addr} {xs:List V} (I:Inv X pins σ H s) (h:H p=some (.lst xs)) :
    ∃ (its:List Value) (n:Nat),Vals xs its∧s.heap.get? p=some { cls := .type "list",data := .seq its.toArray n }∧xs.length≤sizeLine:=by
  obtain ⟨z,its,n,r,e⟩:=I.hok p _ h
  exact ⟨its,n,r,e,z⟩
theorem a4A (lo hi:Option Int) (n:Nat):(sliceBounds lo hi none n).1=((HT.iC n 0 lo:Nat):Int)∧(sliceBounds lo hi none n).2.1=((HT.iC n n hi:Nat):Int)∧(sliceBounds lo hi none n).2.2=1:=by
  refine ⟨?_,?_,rfl⟩
  · cases lo with
    | none=>simp [sliceBounds,HT.iC]
    | some i =>
      simp only [sliceBounds,HT.iC,Option.getD_none,show (1:Int) > 0 by decide,if_true]
      by_cases h:i < 0
      · simp only [h,if_true] <;> omega
      · simp only [h,if_false] <;> omega
  · cases hi with
    | none=>simp [sliceBounds,HT.iC]
    | some i =>
      simp only [sliceBounds,HT.iC,Option.getD_none,show (1:Int) > 0 by decide,if_true]
      by_cases h:i < 0
      · simp only [h,if_true] <;> omega
      · simp only [h,if_false] <;> omega
theorem a1S (its:List Value) (lo hi:Option Int):slicePick its.toArray lo hi none=((its.drop (HT.iC its.length 0 lo)).take (HT.iC its.length its.length hi - HT.iC its.length 0 lo)).toArray:=by
  obtain ⟨h1,h2,h3⟩:=a4A lo hi its.toArray.size
  unfold slicePick
  rw [h1,h2,h3]
  simp only [sliceRange_one,pick_run,List.size_toArray] <;> rfl
def aw4 (K:PySem.W.Frag):V→Option Int→Option Int→Hp→VK→Prop:=fun x lo hi H Q=>∃ a xs,x = .ref a∧tX K H a xs∧∀ p,H p=none→Q (.ref p) (upd H p (.lst (a1R xs lo hi)))
theorem ahE:SlR X (aw4 X.K):=by
  intro pins s σ H x v vl vu lo hi sl Q I rx hs pl pu h
  obtain ⟨a,xs,rfl,hx,q⟩:=h
  cases rx
  obtain ⟨its,r,ht,hz⟩:=I.list hx
  have hlen:=r.length
  refine ⟨"list",_,slot_list_getitem.lookup,ht.isList.typeIs,?_⟩
  refine wpAny_getItem_list_slice ht.isList hs pl pu .none (by simp) ?_ (by rw [List.size_toArray] <;> omega)
  rw [a1S,← hlen]
  refine ⟨.ref s.heap.objs.size,_,I.laid (t':=s.toks) (o := .lst (a1R xs lo hi)) (fun b ob q=>Heap.get?_push_of_some _ q) (Nat.le_refl _) ?_,rfl,q _ (I.hok.fresh (Nat.le_refl _))⟩
  exact ⟨Nat.le_trans (xX xs lo hi) hz,_,0,(r.drop (HT.iC xs.length 0 lo)).take (HT.iC xs.length xs.length hi - HT.iC xs.length 0 lo),Heap.get?_push_size _ rfl⟩
def qT:V→Bool
  | .non=>true
  | .bl _=>true
  | .int _=>true
  | .str _=>true
  | _=>false
def eqV:V→V→Bool
  | .non,.non=>true
  | .bl a,.bl b=>a == b
  | .bl a,.int b=>(if a then 1 else 0) == b
  | .int a,.bl b=>a == (if b then 1 else 0)
  | .int a,.int b=>a == b
  | .str a,.str b=>a == b
  | _,_=>false
theorem wW {A:Around} {s:Shared} {y x:V} {u v:Value} (ry:RelV y u) (rx:RelV x v) (fy:qT y=true) (fx:qT x=true):SeqAt.EqAt A s u v (eqV y x):=by
  cases y with
  | non =>
    cases ry
    cases x with
    | non=>cases rx;exact SeqAt.EqAt.same _
    | bl b=>cases rx;exact SeqAt.EqAt.none_bool b
    | int b=>obtain ⟨t,rfl⟩:=rx;exact SeqAt.EqAt.none_int b t
    | str b=>obtain ⟨t,rfl⟩:=rx;exact SeqAt.EqAt.none_str b t
    | _=>exact absurd (show false=true from fx) Bool.false_ne_true
  | bl a =>
    cases ry
    cases x with
    | non=>cases rx;exact SeqAt.EqAt.bool_none a
    | bl b=>cases rx;exact SeqAt.EqAt.bool_bool a b
    | int b=>obtain ⟨t,rfl⟩:=rx;exact SeqAt.EqAt.bool_int a b t
    | str b=>obtain ⟨t,rfl⟩:=rx;exact SeqAt.EqAt.bool_str a b t
    | _=>exact absurd (show false=true from fx) Bool.false_ne_true
  | int a =>
    obtain ⟨t',rfl⟩:=ry
    cases x with
    | non=>cases rx;exact SeqAt.EqAt.int_none a t'
    | bl b=>cases rx;exact SeqAt.EqAt.int_bool a t' b
    | int b=>obtain ⟨t,rfl⟩:=rx;exact SeqAt.EqAt.int_int a t' b t
    | str b=>obtain ⟨t,rfl⟩:=rx;exact SeqAt.EqAt.int_str a t' b t
    | _=>exact absurd (show false=true from fx) Bool.false_ne_true
  | str a =>
    obtain ⟨t',rfl⟩:=ry
    cases x with
    | non=>cases rx;exact SeqAt.EqAt.str_none a t'
    | bl b=>cases rx;exact SeqAt.EqAt.str_bool a t' b
    | int b=>obtain ⟨t,rfl⟩:=rx;exact SeqAt.EqAt.str_int a t' b t
    | str b=>obtain ⟨t,rfl⟩:=rx;exact SeqAt.EqAt.str_str a t' b t
    | _=>exact absurd (show false=true from fx) Bool.false_ne_true
  | _=>exact absurd (show false=true from fy) Bool.false_ne_true
def eqU (x:V) (u:Value):Bool:=match u with
  | .none=>eqV .non x
  | .bool b=>eqV (.bl b) x
  | .int i _=>eqV (.int i) x
  | .str z _=>eqV (.str z) x
  | _=>false
theorem ad5 {x y:V} {u:Value} (r:RelV y u) (f:qT y=true):eqU x u=eqV y x:=by
  cases y with
  | non=>cases r;rfl
  | bl b=>cases r;rfl
  | int i=>obtain ⟨t,rfl⟩:=r;rfl
  | str z=>obtain ⟨t,rfl⟩:=r;rfl
  | _=>exact absurd (show false=true from f) Bool.false_ne_true
theorem vI {x:V}:∀ {xs:List V} {us:List Value},Vals xs us→xs.all qT=true→us.any (eqU x)=xs.any fun y=>eqV y x
  | _,_,.nil,_=>rfl
  | y :: xs,u :: us,.cons r t,f=>by
    rw [List.all_cons,Bool.and_eq_true] at f
    rw [List.any_cons,List.any_cons,ad5 r f.1,vI t f.2]
theorem rF {A:Around} {s:Shared} {x:V} {v:Value} (rx:RelV x v) (fx:qT x=true):∀ {xs:List V} {us:List Value},Vals xs us→xs.all qT=true→∀ u∈us,SeqAt.EqAt A s u v (eqU x u)
  | _,_,.nil,_=>fun u hu=>by cases hu
  | y :: xs,u :: us,.cons r t,f=>fun u' hu=>by
    rw [List.all_cons,Bool.and_eq_true] at f
    rcases List.mem_cons.mp hu with rfl | hu
    · rw [ad5 r f.1];exact wW r rx f.1 fx
    · exact rF rx fx t f.2 u' hu
def inV (x:V) (xs:List V):Bool:=xs.any fun y=>eqV y x
def rIn (K:PySem.W.Frag) (neg:Bool):R2:=fun x y H Q=>∃ p xs,y = .ref p∧(tX K H p xs∨rD K H p xs)∧qT x=true∧xs.all qT=true∧Q (.bl (if neg then !inV x xs else inV x xs)) H
theorem abD:qR X (compareOp .In) (rIn X.K false):=by
  intro pins s σ H x y v u Q I rx ry h
  obtain ⟨p,xs,rfl,hq,fx,fs,q⟩:=h
  cases ry
  rcases hq with hq | hq
  · obtain ⟨its,r,pl,hz⟩:=I.list hq
    refine SeqAt.in_listAt (eqU x) pl.isList (fun w hw=>rF rx fx r fs w (by simpa using hw)) ⟨.bl _,H,I,rfl,?_⟩
    rw [show its.toArray.any (eqU x)=its.any (eqU x) by simp,vI r fs]
    exact q
  · obtain ⟨its,r,pl,hz⟩:=I.tuple hq
    refine SeqAt.in_tupleAt (eqU x) pl (fun w hw=>rF rx fx r fs w (by simpa using hw)) ⟨.bl _,H,I,rfl,?_⟩
    rw [show its.toArray.any (eqU x)=its.any (eqU x) by simp,vI r fs]
    exact q
theorem a4B:qR X (compareOp .NotIn) (rIn X.K true):=by
  intro pins s σ H x y v u Q I rx ry h
  obtain ⟨p,xs,rfl,hq,fx,fs,q⟩:=h
  cases ry
  rcases hq with hq | hq
  · obtain ⟨its,r,pl,hz⟩:=I.list hq
    refine SeqAt.notIn_listAt (eqU x) pl.isList (fun w hw=>rF rx fx r fs w (by simpa using hw)) ⟨.bl _,H,I,rfl,?_⟩
    rw [show its.toArray.any (eqU x)=its.any (eqU x) by simp,vI r fs]
    exact q
  · obtain ⟨its,r,pl,hz⟩:=I.tuple hq
    refine SeqAt.notIn_tupleAt (eqU x) pl (fun w hw=>rF rx fx r fs w (by simpa using hw)) ⟨.bl _,H,I,rfl,?_⟩
    rw [show its.toArray.any (eqU x)=its.any (eqU x) by simp,vI r fs]
    exact q
theorem a4C:rE X (.builtin "len") (fun xs H Q=>∃ p ys,xs=[.ref p]∧(tX X.K H p ys∨rD X.K H p ys)∧Q (.int ys.length) H):=by
  intro pins s σ H xs us Q I r h
  obtain ⟨p,ys,rfl,hq,q⟩:=h
  obtain ⟨u,rfl,rx⟩:=vals1 r
  cases rx
  have hn:=zO
  rcases hq with hq | hq
  · obtain ⟨its,r',pl,hz⟩:=I.list hq
    have hlen:=r'.length
    exact Calls.call_len_list pl.isList (by simp only [List.size_toArray] <;> omega) ⟨.int ys.length,H,I.tok _,⟨s.toks+1,by rw [List.size_toArray,hlen]⟩,q⟩
  · obtain ⟨its,r',pl,hz⟩:=I.tuple hq
    have hlen:=r'.length
    exact len_tuple pl (by simp only [List.size_toArray] <;> omega) ⟨.int ys.length,H,I.tok _,⟨s.toks+1,by rw [List.size_toArray,hlen]⟩,q⟩
theorem a4D:rE X (.builtin "len") (fun xs H Q=>∃ z,xs=[.str z]∧z.length≤sizeLine∧Q (.int z.length) H):=by
  intro pins s σ H xs us Q I r h
  obtain ⟨z,rfl,hz,q⟩:=h
  obtain ⟨u,rfl,t,rfl⟩:=vals1 r
  have hn:=zO
  exact len_str (by omega) ⟨.int z.length,H,I.tok _,⟨_,rfl⟩,q⟩
theorem rE.or {f:Value} {r r':List V→Hp→VK→Prop} (h:rE X f r) (h':rE X f r'):rE X f (fun xs H Q=>r xs H Q∨r' xs H Q):=by
  intro pins s σ H xs us Q I rs q
  rcases q with q | q
  · exact h pins s σ H xs us Q I rs q
  · exact h' pins s σ H xs us Q I rs q
theorem a4E:rE X (.type "list") (fun xs H Q=>∃ p ys,xs=[.ref p]∧(tX X.K H p ys∨rD X.K H p ys)∧∀ l,H l=none→Q (.ref l) (upd H l (.lst ys))):=by
  intro pins s σ H xs us Q I r h
  obtain ⟨p,ys,rfl,hq,q⟩:=h
  obtain ⟨u,rfl,rx⟩:=vals1 r
  cases rx
  have fin:∀ (its:List Value),Vals ys its→ys.length≤sizeLine→∀ (h':Heap) (c':Nat),(∀ b o',s.heap.get? b=some o'→h'.get? b=some o') →
      h'.get? s.heap.objs.size=some { cls := .type "list",dict:=none,data := .seq its.toArray c',slots:=#[] }→EP X pins σ Q (.ref s.heap.objs.size) { s with heap:=h' }:=fun its r' hz h' c' kp e =>
    ⟨.ref s.heap.objs.size,_,I.laid (t':=s.toks) kp (Nat.le_refl _) (show dO X.prog X.w _ h' _ (.lst ys) from ⟨hz,its,c',r',e⟩),rfl,q _ (I.hok.fresh (Nat.le_refl _))⟩
  rcases hq with hq | hq
  · obtain ⟨its,r',pl,hz⟩:=I.list hq
    have hlen:=r'.length
    obtain ⟨o,ho,hc,n,hd⟩:=pl.isList
    exact call_list_seq p (.inl rfl) ho hc hd (fun h' c' kp e=>fin its r' hz h' c' kp e) (by simp only [List.size_toArray] <;> omega)
  · obtain ⟨its,r',pl,hz⟩:=I.tuple hq
    have hlen:=r'.length
    obtain ⟨o,ho,hc,n,hd⟩:=pl
    exact call_list_seq p (.inr rfl) ho hc hd (fun h' c' kp e=>fin its r' hz h' c' kp e) (by simp only [List.size_toArray] <;> omega)
theorem a1T:rE X (.type "tuple") (fun xs H Q=>∃ p ys,xs=[.ref p]∧((tX X.K H p ys∧∀ l,H l=none→Q (.ref l) (upd H l (.tup ys)))∨(rD X.K H p ys∧Q (.ref p) H))):=by
  intro pins s σ H xs us Q I r h
  obtain ⟨p,ys,rfl,h⟩:=h
  obtain ⟨u,rfl,rx⟩:=vals1 r
  cases rx
  rcases h with ⟨hq,q⟩ | ⟨hq,q⟩
  · obtain ⟨its,r',pl,hz⟩:=I.list hq
    have hlen:=r'.length
    refine call_tuple_list pl.isList (fun h' kp=>?_) (by simp only [List.size_toArray] <;> omega)
    have I1:Inv X pins σ H { s with heap:=h' }:=I.kept (t':=s.toks) kp
    have I2:Inv X pins σ (upd H h'.objs.size (.tup ys)) { s with heap:=h'.push { cls := .type "tuple",data := .seq its.toArray } } :=
      I1.laid (t':=s.toks) (fun b o e=>Heap.get?_push_of_some _ e) (Nat.le_refl _) (show dO X.prog X.w _ _ _ (.tup ys) from ⟨hz,its,r',IsTup.new _ _⟩)
    exact ⟨.ref h'.objs.size,_,I2,rfl,q _ (I1.hok.fresh (Nat.le_refl _))⟩
  · obtain ⟨its,r',pl,hz⟩:=I.tuple hq
    exact call_tuple_same pl ⟨.ref p,H,I,rfl,q⟩
def tyV (K:PySem.W.Frag) (T:String) (x:V) (H:Hp):Prop:=match x with
  | .str _=>T = "str"
  | .int _=>T = "int"
  | .ref p=>(T = "list" ∧ ∃ xs,tX K H p xs)∨(T = "tuple" ∧ ∃ o,K.lookup p=some o∧o.cls = .type "tuple" ∧ o.dict=none) ∨
      (T = "dict" ∧ ((∃ kvs,H p=some (.dK kvs))∨∃ kvs,H p=some (.dT kvs)))∨(T = "set" ∧ ∃ S n,H p=some (.set S n))
  | _=>False
theorem a4F {pins:List (Addr×Obj)} {σ:St} {H:Hp} {s:Shared} {T:String} {x:V} {v:Value} (I:Inv X pins σ H s) (r:RelV x v) (ty:tyV X.K T x H) :
    s.TypeIs v T∧∀ a,v = .ref a→∃ ob,s.heap.get? a=some ob∧ob.dict=none:=by
  cases x with
  | str z =>
    obtain ⟨t,rfl⟩:=r
    cases (show T = "str" from ty)
    exact ⟨typeIs_str s z t,fun _ e=>nomatch e⟩
  | int i =>
    obtain ⟨t,rfl⟩:=r
    cases (show T = "int" from ty)
    exact ⟨typeIs_int s i t,fun _ e=>nomatch e⟩
  | ref p =>
    cases r
    rcases ty with ⟨rfl,xs,hq⟩ | ⟨rfl,o,hk,hc,hd⟩ | ⟨rfl,hk⟩ | ⟨rfl,S,n,hk⟩
    · obtain ⟨its,_,pl,_⟩:=I.list hq
      refine ⟨pl.isList.typeIs,fun a e=>?_⟩
      cases e
      obtain ⟨o,n,e,c,hd,_⟩:=pl
      exact ⟨o,e,hd⟩
    · refine ⟨⟨o,I.xV p o hk,hc⟩,fun a e=>?_⟩
      cases e
      exact ⟨o,I.xV _ o hk,hd⟩
    · have z:∃ o,s.heap.get? p=some o∧o.ExactDict:=by
        rcases hk with ⟨kvs,hk⟩ | ⟨kvs,hk⟩
        · obtain ⟨_,_,_,_,o,_,_,e,ex,_⟩:=I.hok p _ hk
          exact ⟨o,e,ex⟩
        · obtain ⟨_,_,_,_,o,_,_,e,ex,_⟩:=I.hok p _ hk
          exact ⟨o,e,ex⟩
      obtain ⟨o,e,ex⟩:=z
      refine ⟨⟨o,e,ex.1⟩,fun a e2=>?_⟩
      cases e2
      exact ⟨o,e,ex.2.1⟩
    · obtain ⟨o,_,_,_,e,ex,_⟩:=I.hok p _ hk
      refine ⟨⟨o,e,ex.1⟩,fun a e2=>?_⟩
      cases e2
      exact ⟨o,e,ex.2.1⟩
  | _=>exact False.elim ty
variable {o e:Expr} {es:List Expr} {to:TE} {t:TA} {name:Str} {apos cpos:Pos} {T id:String} {r:V→List V→Hp→VK→Prop}
end
end L2
namespace L2
open PySem PySem.Spec PyProof.Rows
def MtM (X:Cx) (id:String) (r:V→List V→Hp→VK→Prop):Prop :=
  ∀ (pins:List (Addr×Obj)) (s:Shared) (σ:St) (H:Hp) (x:V) (xs:List V) (v:Value) (us:List Value) (Q:VK),Inv X pins σ H s→RelV x v→Vals xs us→r x xs H Q →
    wpAny (model X.prog X.w) X.A (call (.builtin id) (v :: us)) (EP X pins σ Q) X.xe s
theorem Vals.one:∀ {x:V} {us:List Value},Vals [x] us→∃ u,us=[u]∧RelV x u
  | _,_,.cons r .nil=>⟨_,rfl,r⟩
theorem Vals.eraseIdx:∀ {xs:List V} {us:List Value} (i:Nat),Vals xs us→Vals (xs.eraseIdx i) (us.eraseIdx i)
  | _,_,_,.nil => .nil
  | _,_,0,.cons _ t=>t
  | _,_,i+1,.cons r t => .cons r (Vals.eraseIdx i t)
section
variable {X:Cx} {pins:List (Addr×Obj)} {σ:St} {H:Hp} {s:Shared} {l b:Addr} {xs ys zs:List V}
theorem Inv.ar6 {its its':List Value} {n:Nat} {f:Array Value→Array Value} {t':Nat} (I:Inv X pins σ H s) (hH:H l=some (.lst xs))
    (e:s.heap.get? l=some { cls := .type "list",data := .seq its.toArray n }) (hf:f its.toArray=its'.toArray) (hv:Vals ys its') (hz:ys.length≤sizeLine) :
    Inv X pins σ (upd H l (.lst ys)) { s with heap:=s.heap.update l (Obj.mapSeq f),toks:=t' }:=by
  have q:=PySem.IsL.update e f
  rw [hf] at q
  refine I.write (x:=l) (e:=l) (by rw [hH];exact trivial) (.inl rfl) (fun b' u hb hu=>(Heap.get?_update_other s.heap (Obj.mapSeq f) (Ne.symm hb)).trans hu) ⟨_,q⟩ ?_
  exact ⟨hz,its',_,hv,q⟩
theorem Inv.ar7 {its:List Value} {t':Nat} (I:Inv X pins σ H s) (hv:Vals ys its) (hz:ys.length≤sizeLine) :
    Inv X pins σ (upd H s.heap.objs.size (.lst ys)) { s with heap:=s.heap.push { cls := .type "list",data := .seq its.toArray },toks:=t' } :=
  I.laid (fun _ _ q=>Heap.get?_push_of_some _ q) (Nat.le_refl _) ⟨hz,its,0,hv,Heap.get?_push_size _ rfl⟩
theorem Inv.fresh (I:Inv X pins σ H s):H s.heap.objs.size=none:=I.hok.fresh (Nat.le_refl _)
theorem Inv.ad6 (I:Inv X pins σ H s) (hH:H l=some (.lst xs)):xs.length≤sizeLine∧∃ (its:List Value) (n:Nat),Vals xs its∧xs.length=its.length∧s.heap.get? l=some { cls := .type "list",data := .seq its.toArray n }:=by
  obtain ⟨z,its,n,r,e⟩:=I.hok l _ hH
  exact ⟨z,its,n,r,r.length,e⟩
theorem ad7 {n:Nat} (h:n≤sizeLine):Builtin.List.listTooLong n=false:=by
  unfold Builtin.List.listTooLong
  exact decide_eq_false (by omega)
end
section
variable {X:Cx}
def ahF:V→List V→Hp→VK→Prop:=fun x vs H Q=>∃ l xs y,x = .ref l∧vs=[y]∧H l=some (.lst xs)∧xs.length < sizeLine∧Q .non (upd H l (.lst (xs++[y])))
theorem a2O:MtM X "list.append" ahF:=by
  intro pins s σ H x vs v us Q I rx rv h
  obtain ⟨l,xs,y,rfl,rfl,hH,hz,q⟩:=h
  cases rx
  obtain ⟨u,rfl,ru⟩:=rv.one
  obtain ⟨z,its,n,r,hl,e⟩:=I.ad6 hH
  refine call_meets F.slot_list_append ⟨_,e,rfl⟩ F.entry_list_append (F.args_list_append_2 _ _) (PySem.list_append l its.toArray n u (by rw [List.size_toArray];omega)) ⟨e,?_⟩
  refine ⟨.non,_,I.ar6 (its':=its++[u]) hH e (by simp) (r.append (.cons ru .nil)) ?_,rfl,q⟩
  rw [List.length_append,List.length_singleton]
  omega
def ahG:V→List V→Hp→VK→Prop:=fun x vs H Q=>∃ l b xs zs,x = .ref l∧vs=[.ref b]∧H l=some (.lst xs)∧H b=some (.lst zs)∧xs.length+zs.length≤sizeLine∧Q .non (upd H l (.lst (xs++zs)))
theorem apR:MtM X "list.extend" ahG:=by
  intro pins s σ H x vs v us Q I rx rv h
  obtain ⟨l,b,xs,zs,rfl,rfl,hH,hB,hz,q⟩:=h
  cases rx
  obtain ⟨u,rfl,ru⟩:=rv.one
  cases ru
  obtain ⟨z,its,n,r,hl,e⟩:=I.ad6 hH
  obtain ⟨z2,its2,n2,r2,hl2,e2⟩:=I.ad6 hB
  have hsz:its.toArray.size+its2.toArray.size≤sizeLine:=by rw [List.size_toArray,List.size_toArray];omega
  have ar8:¬ (!its.toArray.isEmpty&&Builtin.List.listTooLong (its.toArray.size+its2.toArray.size))=true:=by
    rw [ad7 hsz,Bool.and_false]
    exact Bool.false_ne_true
  refine call_meets F.slot_list_extend ⟨_,e,rfl⟩ F.entry_list_extend (F.args_list_extend_2 _ _)
    (AutoSeq1.list_extend_list_list_0 l its.toArray n b its2.toArray n2 ar8 (by rw [List.size_toArray];omega) (by omega)) ⟨e,e2,?_⟩
  refine ⟨.non,_,I.ar6 (its':=its++its2) hH e (by simp) (r.append r2) ?_,rfl,q⟩
  rw [List.length_append]
  omega
def aw5:R2:=fun x y H Q=>∃ l b xs zs,x = .ref l∧y = .ref b∧H l=some (.lst xs)∧H b=some (.lst zs)∧xs.length+zs.length≤sizeLine∧∀ p,H p=none→Q (.ref p) (upd H p (.lst (xs++zs)))
theorem amQ:qR X (binaryOp .Add) aw5:=by
  intro pins s σ H x y v u Q I rx ry h
  obtain ⟨l,b,xs,zs,rfl,rfl,hH,hB,hz,q⟩:=h
  cases rx
  cases ry
  obtain ⟨z,its,n,r,hl,e⟩:=I.ad6 hH
  obtain ⟨z2,its2,n2,r2,hl2,e2⟩:=I.ad6 hB
  refine PySem.P.add_list e e2 ?_ (by rw [List.size_toArray,List.size_toArray];omega)
  have ea:its.toArray++its2.toArray=(its++its2).toArray:=by simp
  rw [ea]
  exact ⟨.ref _,_,I.ar7 (t':=s.toks) (r.append r2) (by rw [List.length_append];omega),rfl,q _ I.fresh⟩
end
section
variable {prog:Program} {w:World} {A:Around} {E:Value→Shared→Prop} {s:Shared}
end
section
variable {X:Cx}
end
end L2
namespace Att
open PySem PySem.W PySem.Calls PyProof.Rows
theorem yQ {P:Params} {h:Heap}:∀ (ns:List Int) (vs:List Value),WellAll P h vs (ns.map WData.int)→IntsAre vs ns:=by
  intro ns
  induction ns with
  | nil =>
    intro vs w
    rw [List.map_nil] at w
    cases w
    exact .nil
  | cons n ns ih =>
    intro vs w
    rw [List.map_cons] at w
    cases w with
    | cons a b =>
      cases a
      exact .cons _ _ (ih _ b)
theorem abE {l:OpenLaw} {n:Nat} (hn:l.most=some n) {P:Params} {h:Heap} {args:List WData} {vals:List Value}
    (hpre:l.row.toRowW.claim.pre args=true) (hwl:WellAll P h vals args) :
    ∃ a vs ns,vals=[Value.ref a]∧args=[WData.list (ns.map WData.int)]∧h.get? a=some { cls := .type "list",data := .seq vs.toArray }∧IntsAre vs ns∧ns.length≤n:=by
  have hsh:WShape.hasAll [] args [.list .int]=true:=(pre_splitW hpre).1
  have hc:l.pre.holds [] { args:=args }=true:=(pre_splitW hpre).2
  obtain ⟨d,r,rfl,h1,h2⟩:=hasAllW_cons hsh
  obtain rfl:=hasAllW_nil h2
  obtain ⟨xs,rfl,h3⟩:=hasW_list h1
  obtain ⟨ns,rfl⟩:=items_int h3
  have hlen:ns.length≤n:=by
    unfold OpenLaw.pre at hc
    have h4:(WTm.not (.lt (.lit (.int (n:Int))) (.len (.arg 0)))).holds [] { args:=[.list (ns.map .int)] }=true:=by
      have h4:=(holds_andW hc).1
      rw [hn] at h4
      exact h4
    have h5:=condW_of h4 (w_not (w_lt w_lit (w_len_list (w_arg rfl))))
    rw [List.length_map] at h5
    refine Nat.le_of_not_lt fun q=>?_
    have q':(n:Int) < ((ns.length:Nat):Int):=by omega
    first
      | (rw [decide_eq_true q'] at h5;exact absurd h5 (by decide))
      | (simp at h5;omega)
  cases hwl with
  | cons w1 w2 =>
    cases w2
    cases w1 with
    | list ho hall=>exact ⟨_,_,ns,rfl,rfl,ho,yQ ns _ hall,hlen⟩
theorem abF (l:OpenLaw) (args:List WData):l.row.toRowW.claim.post args (.bool true) args=true :=
  postW_of (r:=l.row.toRowW) (X:=(true == true))
    (show WShape.has [] (.bool true) .bool=true by first | rfl | decide | simp [WShape.has,WShape.arms,WShape.armsAll])
    (show (WTm.eq .res (.lit (.bool true))).value [] { args:=args,res:=some (.bool true),after:=args }=some (.bool (true == true)) from w_eq_bool (w_res rfl) w_lit) rfl
theorem a68 {l:OpenLaw} {n:Nat} {q:Program} {loose:List Str} {XP:(Str→Option Value)→Heap→Prop} {YP:World→Heap→Prop} {d:DefRec}
    (hn:l.most=some n) (hdf:d.params.defaults=[])
    (call:∀ (w:World) (s₀ s₁:Shared) (mg mb:Str→Option Value) (fa:Addr) (o:Obj) (pm cd doc:Value) (a:Addr) (vs:List Value) (ns:List Int),
      Ground q loose [] XP w s₀ mg mb s₁.heap→YP w s₁.heap →
      s₁.heap.get? fa=some o→o.data = .func (docDef d.name d.params d.body d.scope pm cd doc)→s₁.heap.CodeRec cd d.name→mg d.name=some (.ref fa) →
      s₁.heap.get? a=some { cls := .type "list",data := .seq vs.toArray }→IntsAre vs ns→ns.length≤n→s₁.gens=#[] →
      codeAny (model l.prog w) callerA (.call (.ref fa) ⟨[.ref a],[]⟩) (fun r s'=>r = .ok (.ret (.bool true))∧OldK s₁.heap s'.heap∧s'.os=s₁.os∧AllBare s'.gens) s₁) :
    WalkO q loose XP YP l.row.toRowW d [] (fun f vs=>PySem.call f vs):=by
  intro w s₀ s₁ mg mb G Y fa o pm cd doc dV kV ho hd hcd hD hmg hg args vals as hpre hlay hrd hwl hlo
  obtain rfl:dV = .none:=Dflts.none hD hdf
  obtain rfl:kV = .none:=Dflts.noKw hD
  obtain ⟨a,vs,ns,rfl,rfl,hobj,hints,hlen⟩:=abE hn hpre hwl
  refine enter_call (codeAny_mono (call w s₀ s₁ mg mb fa o pm cd doc a vs ns G Y ho (fd_plain hd) hcd hmg hobj hints hlen hg) fun r s' hq=>?_)
  obtain ⟨rfl,h2,h3,h4⟩:=hq
  exact ⟨.inl ⟨.bool true,.bool true,[],rfl,fun _=>rfl,.bool true,abF l _,fun _=>⟨List.Pairwise.nil,fun _ hm=>(nomatch hm)⟩⟩,h2,h3,h4⟩
section
variable {prog:Program} {w:World} {A:Around} {E:Value→Shared→Prop} {s:Shared} {K:Frag}
def ledger (h:Heap) (L d:Addr):List (Addr×Obj):=(List.range h.objs.size).filterMap fun a=>if a=L∨a=d then none else (h.get? a).map fun o=>(a,o)
end
end Att
namespace L2
open PySem PySem.Spec PyProof.Rows
theorem a2P:∀ {vs:List Value} {ns:List Int},IntsAre vs ns→Vals (ns.map V.int) vs
  | _,_,.nil => .nil
  | _,_,.cons n t h => .cons ⟨t,rfl⟩ (a2P h)
end L2
namespace L2
open PySem PySem.Spec PyProof.Rows
end L2
namespace L2
open PySem PySem.Spec PyProof.Rows
def jP (s:Stmt):Arguments:=match s with
  | .FunctionDef _ a _ _ _ _ _ _ _ _=>a
  | _=>{ posonlyargs:=[],args:=[],vararg:=none,kwonlyargs:=[],kw_defaults:=[],kwarg:=none,defaults:=[] }
def bN (s:Stmt):List Stmt:=match s with
  | .FunctionDef _ _ b _ _ _ _ _ _ _=>b
  | _=>[]
def aH (s:Stmt):Scope:=match s with
  | .FunctionDef _ _ _ _ _ _ sc _ _ _=>sc
  | _=>{ kind := .function,names:=[],isGenerator:=false,isCoroutine:=false }
abbrev CX0:zP:=fun _ _ _ _ _ _=>False
structure vJ (K:PySem.W.Frag) (x qual:Str) (st:Stmt) (f:Addr) (fd:FuncData):Prop where
  ex:∃ (oc:Value) (od:Option Addr) (dV kV doc pm:Value) (an:Option Addr) (cdv ct:Value) (osl:Array (Option Value)),
    fd=PySem.W.fnOf x qual (jP st) (bN st) (aH st) dV kV doc pm an cdv ct∧K.lookup f=some ⟨oc,od,.func fd,osl⟩∧PySem.W.codeIn K cdv qual=true
  kp:PySem.W.keepIn K (.ref f)=true
section
variable {P:Program} {w:World} {K:PySem.W.Frag} {mg:Str→Option Value} {base:Heap}
theorem vJ.ok {x qual:Str} {st:Stmt} {f:Addr} {fd:FuncData} {N ps:List Str} {k:Nat} {sp:Sp} (F:vJ K x qual st f fd) (S:bF N ps (aH st)) (len:∀ vs H Q E,sp vs H Q E→vs.length=ps.length)
    (hbody:∀ (cdv:Value) (A:Around) (outer:List Env) (s:Shared) (H:Hp) (vs:List V) (Q:VK) (E:XK),cH qt k (A.deeper (envOfC qual (aH st) s.heap.objs.size f cdv))→sp vs H Q E →
      ∃ t,z8 (fV qt CX0 P w K mg base N qual (aH st) f cdv A outer s H E).nox (bN st) t∧t { nx:=fun _ H'=>Q .non H',rt:=Q } (start N vs) H):cR qt P w K mg base CX0 (k+1) f fd ps sp:=by
  obtain ⟨oc,od,dV,kV,doc,pm,an,cdv,ct,osl,rfl,lk,hcd⟩:=F.ex
  refine akE lk hcd S len fun A outer s H vs Q E hr hsp=>?_
  obtain ⟨t,h,q⟩:=hbody cdv A outer s H vs Q E hr hsp
  exact ⟨t,h.nox,q⟩
theorem ad8 {x qual:Str} {st:Stmt} {f:Addr} {oc:Value} {od an:Option Addr} {osl:Array (Option Value)} {dV kV doc pm cdv ct:Value} (l:K.lookup f=some ⟨oc,od,.func (PySem.W.fnOf x qual (jP st) (bN st) (aH st) dV kV doc pm an cdv ct),osl⟩)
    (c:PySem.W.codeIn K cdv qual=true) (k:PySem.W.keepIn K (.ref f)=true):vJ K x qual st f (PySem.W.fnOf x qual (jP st) (bN st) (aH st) dV kV doc pm an cdv ct):=⟨⟨oc,od,dV,kV,doc,pm,an,cdv,ct,osl,rfl,l,c⟩,k⟩
end
section
variable {X:Cx}
end
def Same (H H':Hp):Prop:=∀ b o,H b=some o→H' b=some o
theorem Same.refl (H:Hp):Same H H:=fun _ _ h=>h
theorem Same.trans {H H1 H2:Hp} (a:Same H H1) (b:Same H1 H2):Same H H2:=fun c o h=>b c o (a c o h)
theorem Same.free {H H':Hp} (e:Same H H') {l:Addr} (h:H' l=Option.none):H l=Option.none:=by
  cases q:H l with
  | none=>rfl
  | some o =>
    rw [e l o q] at h
    cases h
theorem Same.seq {K:PySem.W.Frag} {H H':Hp} {a:Addr} {xs:List V} (e:Same H H') (h:tX K H a xs):tX K H' a xs:=by
  rcases h with (h | ⟨o,h⟩) | h
  · exact .inl (.inl (e _ _ h))
  · exact .inl (.inr ⟨o,e _ _ h⟩)
  · exact .inr h
section
variable {X:Cx}
end
section
variable {κ:Type} [DecidableEq κ]
end
end L2
namespace L2
open PySem PySem.Spec PyProof.Rows
section
open AutoSeq1 (wpAny_loadPart')
end
section
variable {prog:Program} {w:World} {A:Around} {E:Value→Shared→Prop} {s:Shared}
end
section
variable {prog:Program} {w:World} {A:Around} {R:Result→Shared→Prop} {I:Addr} {fp wr:List Addr} {P:Nat→Value→Prop} {St:Nat→Heap→Prop}
end
section
open PySem.SeqAt
open PySem.AutoSeq1 (wpAny_loadPart')
open PySem.MeetsSeq PySem.MeetsSeq2 PySem.MeetsSeq3
end
end L2
namespace L2
open PySem PySem.Spec PyProof.Rows PySem.W
section
variable {P:Program} {w:World} {fs ex:List Addr} {H:Hp} {h h':Heap} {T:Addr} {ps more:Array Value}
theorem nR.grow (x:nR P w H h) (e:H T=some (.xU ps)) (k:∀ b u,b≠T→h.get? b=some u→h'.get? b=some u) (hT:h'.get? T=some (tabObj (ps++more))):nR P w (upd H T (.xU (ps++more))) h':=fun a o q=>by
  by_cases z:a=T
  · subst z;rw [aJ] at q;cases q;exact hT
  · rw [aK z] at q
    refine (x a o q).stay (fun b u hb hu=>k b u ?_ hu) (fun b hb=>?_) fun b xs hb=>?_
    · rcases hb with rfl | hb
      · exact z
      · intro y;subst y;rw [e] at hb;cases hb
    · rw [aK (fun y=>by subst y;rw [e] at hb;cases hb)];exact hb
    · rw [aK (fun y=>by subst y;rw [e] at hb;cases hb)];exact hb
end
def qU (H:Hp) (c':Addr) (qual:Str):Prop:=∃ (oc:Obj) (vs:Array Value) (t:Tok),H c'=some (.mZ oc (.ext fun _=>True))∧oc.data = .fields vs∧vs[1]?=some (.str qual t)
def xY (H:Hp) (qual:Str) (pos:Pos) (ps:Array Value):Prop:=ps=#[]∨∃ c',ps=#[rawInt pos.line,rawInt pos.col,.ref c']∧qU H c' qual
abbrev wX (o:Obj):HO := .mZ o (.ext fun _=>True)
theorem vK {P:Program} {w:World} {H:Hp} {h:Heap} {a:Addr} {o:Obj} (e:h.get? a=some o):dO P w H h a (wX o):=⟨e,trivial,⟨o,e⟩,fun _ _ _ _=>trivial⟩
theorem qU.keep {H H':Hp} {c':Addr} {qual:Str} (r:qU H c' qual) (k:∀ a o φ,H a=some (.mZ o (.ext φ))→H' a=some (.mZ o (.ext φ))):qU H' c' qual:=by
  obtain ⟨oc,vs,t,e,r⟩:=r
  exact ⟨oc,vs,t,k _ _ _ e,r⟩
theorem xY.keep {H H':Hp} {qual:Str} {pos:Pos} {ps:Array Value} (r:xY H qual pos ps) (k:∀ a o φ,H a=some (.mZ o (.ext φ))→H' a=some (.mZ o (.ext φ))):xY H' qual pos ps:=by
  rcases r with r | ⟨c',e,r⟩
  · exact .inl r
  · exact .inr ⟨c',e,r.keep k⟩
section
variable {X:Cx} {pins:List (Addr×Obj)} {σ:List (Option V)} {H:Hp} {s:Shared}
theorem Inv.grow {T c':Addr} {ps more:Array Value} {oc:Obj} {h':Heap} {t':Nat} (I:Inv X pins σ H s) (e:H T=some (.xU ps)) (k:∀ b u,b≠T→s.heap.get? b=some u→h'.get? b=some u) (hT:h'.get? T=some (tabObj (ps++more))) (hc:s.heap.objs.size≤c') (ho:h'.get? c'=some oc) :
    Inv X pins σ (upd (upd H T (.xU (ps++more))) c' (wX oc)) { s with heap:=h',toks:=t' }:=by
  have fr:H c'=none:=I.hok.fresh hc
  have tc:T≠c':=aP e fr
  have nT:∀ b,H b=none→b≠T:=fun b n z=>by subst z;rw [e] at n;cases n
  have old:∀ b o,s.heap.get? b=some o→b≠c':=fun b o q=>Nat.ne_of_lt (Nat.lt_of_lt_of_le (Heap.lt_size q) hc)
  have hk2:nR X.prog X.w (upd H T (.xU (ps++more))) h':=I.hok.grow e k hT
  refine I.step (ch:=[]) (fun b z=>nomatch z) (fun b o _ _ _ q n=>k b o (nT b n) q) (fun b o _ _ _ q n=>⟨o.slots,k b o (nT b n) q⟩) (fun b o _ q n=>?_) (fun b o _ q=>?_) (fun b xs q=>?_) (fun b o u q=>?_) (fun b qs q=>?_) (fun m hn=>?_) (fun a o q=>?_) I.bare
  · rw [aK (old b o q),aK (nT b n)];exact n
  · by_cases z:b=T
    · subst z;exact ⟨_,hT⟩
    · exact ⟨o,k b o z q⟩
  · rw [aK (aP q fr),aK (rB q e (fun z=>by cases z))];exact q
  · rw [aK (aP q fr),aK (rB q e (fun z=>by cases z))];exact q
  · by_cases z:b=T
    · subst z
      rw [e] at q;cases q
      exact ⟨more,by rw [aK tc,aJ]⟩
    · exact ⟨#[],by rw [aK (aP q fr),aK z,q];simp⟩
  · obtain ⟨o,es,ep,q,r⟩:=hn
    exact ⟨o,es,ep,k _ _ (nT _ I.free) q,r⟩
  · by_cases z:a=c'
    · subst z;rw [aJ] at q;cases q;exact vK ho
    · rw [aK z] at q
      refine (hk2 a o q).stay (fun _ _ _ h=>h) (fun b hb=>?_) fun b xs hb=>?_
      · rw [aK (fun y=>by subst y;rw [aK (Ne.symm tc),fr] at hb;cases hb)];exact hb
      · rw [aK (fun y=>by subst y;rw [aK (Ne.symm tc),fr] at hb;cases hb)];exact hb
theorem ahH {A:Around} {E:Value→Shared→Prop} {Q:Value→Shared→Prop} {name qual:Str} {params:Arguments} {body:List Stmt} {scope:Scope} {pos:Pos} {firstLine:Nat} {clos:List (Str×Addr)} {c T:Addr} {ps:Array Value} (I:Inv X pins σ H s) (hT:H T=some (.xU ps)) (st:xY H qual pos ps) (C:CodeHd X.base c T) (hb:X.base.BuiltinsAt X.mg T) (hcode:X.env.code = .ref c) (hcl:closureFor scope X.env=pure clos)
    (h:∀ f c' doc ctv ps' H' s',Inv X pins σ H' s'→H f=none→H' f=some (wX (fnMade name qual params body scope clos doc ((X.mg "__name__").getD .none) c' ctv))→qU H' c' qual→H' T=some (.xU ps')→xY H' qual pos ps'→(∀ b u,b≠T→H b=some u→H' b=some u)→Q (.ref f) s') :
    wpAny (model X.prog X.w) A (makeFunction name qual params (.stmts body) scope X.env [] [] [] pos firstLine) Q E s:=by
  have hP:s.heap.get? T=some (tabObj ps):=I.hok T _ hT
  have hg:s.heap.Ns mainGlobals X.mg:=I.mod.glob.keeps I.bk
  have hC:CodeHd s.heap c T:=C.keeps I.bk
  have hgT:mainGlobals≠T:=fun z=>by
    obtain ⟨o,es,ep,q,d,_⟩:=hg
    rw [z,hP] at q;cases q;cases d
  have hbs:s.heap.BuiltinsAt X.mg T:=by
    obtain ⟨bm,o,b1,b2,b3,b4,b5,b6⟩:=hb
    exact ⟨bm,o,b1,b2,b3,b4,I.bk _ _ b5,b6⟩
  rcases id st with st0 | ⟨c',e,rec⟩
  · subst st0
    refine makeFunction_K (mg:=X.mg) hcl I.ok.glob hg hcode hC hP trivial rfl hgT hbs fun c' ctv doc h' tk hx hge hlt hrec htb=>?_
    obtain ⟨c₂,oc,vs,t,e2,hoc,hd,hv⟩:=hrec
    cases e2
    have I1:=I.grow (t':=s.toks) (c':=c') hT (fun b u n q=>hx b u n q) htb hge hoc
    have fr:H c'=none:=I.hok.fresh hge
    have tc:T≠c':=aP hT fr
    have ff:H h'.objs.size=none:=I.hok.fresh (Nat.le_trans hge (Nat.le_of_lt hlt))
    have I2:=I1.laid (t':=tk) (o:=wX (fnMade name qual params body scope clos doc ((X.mg "__name__").getD .none) c' ctv)) (fun b u q=>Heap.get?_push_of_some _ q) (Nat.le_refl _) (vK (Heap.get?_push_size _ rfl))
    have n1:c'≠h'.objs.size:=Nat.ne_of_lt hlt
    have n2:T≠h'.objs.size:=aP hT ff
    have rc:qU (upd (upd (upd H T (.xU (#[]++#[rawInt pos.line,rawInt pos.col,.ref c']))) c' (wX oc)) h'.objs.size (wX (fnMade name qual params body scope clos doc ((X.mg "__name__").getD .none) c' ctv))) c' qual:=⟨oc,vs,t,by rw [aK n1,aJ],hd,hv⟩
    refine h h'.objs.size c' doc ctv _ _ _ I2 ff aJ rc (by rw [aK n2,aK tc,aJ]) (.inr ⟨c',by simp,rc⟩) fun b u hb q=>?_
    rw [aK (aP q ff),aK (aP q fr),aK hb];exact q
  · subst e
    have hf:codeAmong pos (#[rawInt pos.line,rawInt pos.col,Value.ref c']:Array Value).toList=some (.ref c'):=by simp [codeAmong,rawInt]
    refine makeFunction_hit (mg:=X.mg) hcl I.ok.glob hg hcode hC hP trivial hf hbs fun ctv doc h' tk hk hsz=>?_
    have ff:H h'.objs.size=none:=I.hok.fresh hsz
    have I1:=I.kept (t':=s.toks) hk
    have I2:=I1.laid (t':=tk) (o:=wX (fnMade name qual params body scope clos doc ((X.mg "__name__").getD .none) c' ctv)) (fun b u q=>Heap.get?_push_of_some _ q) (Nat.le_refl _) (vK (Heap.get?_push_size _ rfl))
    have kf:∀ b u,H b=some u→upd H h'.objs.size (wX (fnMade name qual params body scope clos doc ((X.mg "__name__").getD .none) c' ctv)) b=some u:=fun b u q=>by rw [aK (aP q ff)];exact q
    exact h h'.objs.size c' doc ctv _ _ _ I2 ff aJ (rec.keep fun a o u q=>kf a _ q) (kf _ _ hT) (.inr ⟨c',rfl,rec.keep fun a o u q=>kf a _ q⟩) fun b u _ q=>kf b u q
end
end L2
namespace L2
open PySem PySem.Spec PyProof.Rows PySem.W
theorem wY {env:Env}:∀ (a b:List Stmt),execs (a++b) env=(execs a env >>= fun f=>match f with | .next=>execs b env | f=>pure f)
  | [],b=>by simp [execs]
  | s :: r,b=>by
    rw [List.cons_append,execs,execs,bind_assoc]
    congr 1
    funext f
    cases f with
    | next=>exact wY r b
    | _=>simp
section
variable {P:Program} {w:World} {fs ex:List Addr} {H H':Hp} {h h':Heap} {a:Addr} {o:Obj}
theorem nR.adopt (x:nR P w H h) (n:H a=none) (e:h.get? a=some o):nR P w (upd H a (wX o)) h:=fun b u q=>by
  by_cases z:b=a
  · subst z;rw [aJ] at q;cases q;exact vK e
  · rw [aK z] at q
    exact (x b u q).stay (fun _ _ _ h=>h) (fun c hc=>by rw [aK (aP hc n)];exact hc) fun c xs hc=>by rw [aK (aP hc n)];exact hc
theorem Un.adopt {u:HO} (x:Un fs ex H H' h h') (n:H' a=none) (new:h.objs.size≤a):Un fs ex H (upd H' a u) h h' where
  keep:=x.keep
  slot:=x.slot
  free:=fun b o q m hx=>by rw [aK (Nat.ne_of_lt (Nat.lt_of_lt_of_le (Heap.lt_size q) new))];exact x.free b o q m hx
  there:=x.there
  tups:=fun b xs q=>by rw [aK (aP (x.tups b xs q) n)];exact x.tups b xs q
  d9:=fun b o v q=>by rw [aK (aP (x.d9 b o v q) n)];exact x.d9 b o v q
  jO:=fun b ps q=>by
    obtain ⟨more,e⟩:=x.jO b ps q
    exact ⟨more,by rw [aK (aP e n)];exact e⟩
end
section
variable {X:Cx} {name qual:Str} {params:Arguments} {body:List Stmt} {scope:Scope} {pos:Pos} {clos:List (Str×Addr)} {c T:Addr} {i:Nat}
def ar9 (K:PySem.W.Frag) (pm:Value) (T:Addr) (name qual:Str) (params:Arguments) (body:List Stmt) (scope:Scope) (pos:Pos) (clos:List (Str×Addr)) (i:Nat):TS:=fun D σ H=>∃ ps,H T=some (.xU ps)∧xY H qual pos ps ∧
  ∀ f c' doc ctv ps' H',K.lookup f=none→H f=none→H' f=some (wX (fnMade name qual params body scope clos doc pm c' ctv))→qU H' c' qual→H' T=some (.xU ps')→xY H' qual pos ps'→(∀ b u,b≠T→H b=some u→H' b=some u)→D.nx (σ.set i (some (.ref f))) H'
theorem ahI (hd0:params.defaults=[]) (hk0:params.kw_defaults=[]) (ha:annTrees params none X.env=[]) (hq:qualnameIn X.env name name=qual) (C:CodeHd X.base c T) (hb:X.base.BuiltinsAt X.mg T) (hcode:X.env.code = .ref c) (hcl:closureFor scope X.env=pure clos) (hN:X.N.Nodup) (hi:X.N[i]?=some name) (hx:Loc X.env.scope name) (hf:X.fn name=true∨X.env.scope.names.lookup name=some .local) :
    PS X (.FunctionDef name params body [] none [] scope none name pos) (ar9 X.K ((X.mg "__name__").getD .none) T name qual params body scope pos clos i):=by
  intro pins s σ H D I h _tk
  obtain ⟨ps,hT,st,h⟩:=h
  refine nestDef_K hd0 hk0 ha ?_
  rw [hq]
  refine ahH I hT st C hb hcode hcl fun f c' doc ctv ps' H' s' I' ff hf' rc hT' st' kp=>?_
  have kf:X.K.lookup f=none:=by
    cases q:X.K.lookup f with
    | none=>rfl
    | some o =>
      have:=(I'.bs f o (I'.ok.mod.kin f o q)).2
      rw [hf'] at this;cases this
  exact v9 (v := .ref f) I' hN hi hx rfl (fun s'' I''=>⟨_,H',I'',h f c' doc ctv ps' H' kf ff hf' rc hT' st' kp⟩) hf
end
theorem ad9 {qt:Bool} {CX:zP} {P:Program} {w:World} {K:PySem.W.Frag} {mg:Str→Option Value} {base:Heap} {k:Nat} {f:Addr} {name qual g x:Str} {params:Arguments} {pre:List Stmt} {pg pr:Pos} {scope:Scope} {dV kV doc pm cdv ct oc:Value} {an od:Option Addr}
    {osl:Array (Option Value)} {N ps:List Str} {sp:Sp} {ig ix:Nat} (lk:K.lookup f=some ⟨oc,od,.func (PySem.W.fnOf name qual params (pre++[.Return (some (.Name g pg)) pr]) scope dV kV doc pm an cdv ct),osl⟩) (hcd:PySem.W.codeIn K cdv qual=true) (S:bF N ps scope)
    (len:∀ vs H Q E,sp vs H Q E→vs.length=ps.length) (hg:N[ig]?=some g) (hgv:Vis scope g) (hx:N[ix]?=some x) (hxc:scope.names.lookup x=some .cell) (hdb:(g == ("__debug__" : Str))=false) (hcl:(g == ("__classdict__" : Str))=false)
    (hbody:∀ (A:Around) (outer:List Env) (s:Shared) (H:Hp) (vs:List V) (Q:VK) (E:XK),cH qt k (A.deeper (envOfC qual scope s.heap.objs.size f cdv))→sp vs H Q E →
      ∃ t,z8 (fV qt CX P w K mg base N qual scope f cdv A outer s H E) pre t∧t { nx:=fun σ' H'=>∃ fA vv,σ'[ig]?=some (some (.ref fA))∧σ'[ix]?=some (some vv)∧∀ cc u ob,(cellsFrom (s.heap.objs.size+1) scope.names []).lookup x=some cc→RelV vv u→ob.data = .cell (some u)→H' cc=none→Q (.ref fA) (upd H' cc (wX ob)),rt:=fun _ _=>False } (start N vs) H) :
    cR qt P w K mg base CX (k+1) f (PySem.W.fnOf name qual params (pre++[.Return (some (.Name g pg)) pr]) scope dV kV doc pm an cdv ct) ps sp:=by
  refine ⟨len,fun A outer s H args us vs Q E hr e0 hb r hsp=>?_⟩
  have hl:=len _ _ _ _ hsp
  have KX:K.In s.heap:=e0.mod.kin.keeps fun b o e=>(e0.bs b o e).1
  have lim:s.heap.NoLimit:=e0.mod.nolimit.keeps fun b o e=>(e0.bs b o e).1
  have hkind:∀ y∈ps.zip us,scope.names.lookup y.1=some .local∨(scope.names.lookup y.1=some .cell∧((cellsFrom (s.heap.objs.size+1) scope.names []).lookup y.1).isSome=true):=fun ⟨n,v⟩ hy=>by
    rcases S.par n (List.of_mem_zip hy).1 with q | q
    · exact .inl q
    · exact .inr ⟨q,PySem.W.cellsFrom_some _ _ _ (.inl q)⟩
  refine codeAny_call_function hr.depth (KX _ _ lk) rfl S.co S.gen rfl (PySem.W.codeRec_of KX hcd) (hb _ _ _ _ ?_)
  refine wpAny_newFunctionEnv_cells S.kind hkind fun env he s1 y=>?_
  subst he
  refine ⟨lim.keeps y.toInCall.keep,codeAny_func ?_⟩
  obtain ⟨t,ht,hq⟩:=hbody A outer s H vs Q E (hr.deeper _) hsp
  have I:Inv (fV qt CX P w K mg base N qual scope f cdv A outer s H E) [] (start N vs) H s1:=wR S hr.hd e0 hl r y
  rw [wY]
  refine wpAny_bind (wpAny_mono (ht [] s1 (start N vs) H _ I hq) (fun fl s' hs=>?_) fun e s' hs=>hs)
  cases fl with
  | ret u=>obtain ⟨_,_,_,_,_,z⟩:=hs;exact z.elim
  | brk=>obtain ⟨_,_,_,z⟩:=hs;exact False.elim z
  | cont=>obtain ⟨_,_,_,z⟩:=hs;exact False.elim z
  | next =>
    obtain ⟨σ',H',J,fA,vv,e1,e2,q⟩:=hs
    have pn:=acP (X:=fV qt CX P w K mg base N qual scope f cdv A outer s H E) (pos:=pg) hg hgv hdb hcl [] s' σ' H' (fun v H1=>v = .ref fA∧H1=H') J ⟨_,e1,rfl,rfl⟩
    refine wpAny_execs_cons (wpAny_Return_some (wpAny_mono pn (fun u s2 ⟨v,H2,J2,rv,ev,eH⟩=>?_) fun e s' hs=>hs))
    subst ev eH
    obtain rfl:u=Value.ref fA:=rv
    show CE outer P w H s Q (.ref fA) s2
    obtain ⟨m,hn,hloc⟩:=id J2.loc
    obtain ⟨ux,rx,lx⟩:=hloc ix x vv hx e2 (.inr (.inl hxc))
    rcases lx with ⟨kl,_⟩ | ⟨_,cc,ec,ob,eo,ed⟩
    · have kl:scope.names.lookup x=some .local:=kl
      rw [hxc] at kl;cases kl
    · have n:H2 cc=none:=J2.fG x cc ec
      have new:s.heap.objs.size≤cc:=J2.ok.cab x cc rfl ec
      exact ⟨.ref fA,upd H2 cc (wX ob),J2.os,J2.bare,J2.base.adopt n new,J2.hok.adopt n eo,rfl,q cc ux ob ec rx ed n⟩
end L2
namespace L2
open PySem PySem.Spec PyProof.Rows PySem.W
theorem iW:∀ (names:List (Str×NameKind)) (n:Nat) (acc:List (Str×Addr)),cellsFrom n names acc=cellsFrom n names []++acc
  | [],_,_=>rfl
  | (name,kind) :: r,n,acc=>by
    unfold cellsFrom
    split
    · rw [iW r (n+1) ((name,n) :: acc),iW r (n+1) [(name,n)],List.append_assoc]
      rfl
    · exact iW r n acc
def lM (name:Str) (scope:Scope) (L a:Addr) (cd:Value) (cl:List (Str×Addr)):Env :=
  { scope:=scope,locals:=L,globals:=mainGlobals,cells:=cellsFrom (L+1) scope.names cl,qual:=name ++ ".<locals>.",func:=some a,code:=cd,frame:=some L,builtins:=builtinsNs }
structure InX (s:Shared) (L:Addr) (m:Str→Option Value) (names:List (Str×NameKind)) (s1:Shared):Prop where
  call:InCall s L m s1
  cell:∀ n c,(n,c)∈cellsFrom (L+1) names []→s1.heap.IsCell c none∧L < c
  apart:(cellsFrom (L+1) names []).Pairwise fun x y=>x.2≠y.2
section
variable {M:Model} {A:Around} {E:Value→Shared→Prop} {s₀ s:Shared} {env:Env}
theorem xZ (f:Str×Value→PUnit→Sem (ForInStep PUnit)) (hf:∀ n v u,f (n,v) u=(do storeName env n v;pure (.yield ⟨⟩))) (hk:env.scope.kind = .function) :
    ∀ (binds:List (Str×Value)) (m:Str→Option Value) (s:Shared) (Q:PUnit→Shared→Prop),InX s₀ env.locals m env.scope.names s →
      (∀ x∈binds,env.kindOf x.1=some .local)→(∀ s',InX s₀ env.locals (bindL env.kindOf binds m) env.scope.names s'→Q ⟨⟩ s')→wpAny M A (forIn binds ⟨⟩ f) Q E s
  | [],m,s,Q,x,_,h=>by rw [List.forIn_nil];exact wpAny_pure (h s x)
  | (n,v) :: r,m,s,Q,x,hl,h=>by
    rw [List.forIn_cons,hf]
    have l:=hl (n,v) List.mem_cons_self
    refine wpAny_bind (wpAny_bind (wpAny_storeName_local l x.call.ns (fun h' hn' hs'=>wpAny_pure (xZ f hf hk r _ _ Q ⟨⟨?_,hn',fun b o e=>?_,x.call.fresh⟩,fun k c hc=>?_,x.apart⟩ (fun y hy=>hl y (List.mem_cons_of_mem _ hy)) fun s'' x''=>h s'' ?_)) (by rw [hk];rfl)))
    · obtain ⟨h₁,tk,rfl⟩:=x.call.same
      exact ⟨h',_,rfl⟩
    · exact hs'.extBut b o (Nat.ne_of_lt (Nat.lt_of_lt_of_le (Heap.lt_size e) x.call.fresh)) (x.call.keep b o e)
    · exact ⟨(x.cell k c hc).1.sameBut hs' (Nat.ne_of_gt (x.cell k c hc).2),(x.cell k c hc).2⟩
    · unfold bindL;rw [if_pos l];exact x''
theorem ahJ {scope:Scope} {cl:List (Str×Addr)} {binds:List (Str×Value)} {qual:Str} {f:Addr} {code:Value} {Q:Env→Shared→Prop} (hk:scope.kind = .function) (hloc:∀ x∈binds,scope.names.lookup x.1=some .local)
    (hQ:∀ s',InX s s.heap.objs.size (bindL (lM qual scope s.heap.objs.size f code cl).kindOf binds fun _=>none) scope.names s'→Q (lM qual scope s.heap.objs.size f code cl) s') :
    wpAny M A (newFunctionEnv scope mainGlobals cl binds (qual ++ ".<locals>.") (some f) code none builtinsNs) Q E s:=by
  simp only [newFunctionEnv,Option.isSome_none,Bool.false_eq_true,if_false]
  refine wpAny_bind (wpAny_alloc ?_)
  refine wpAny_bind (wpAny_layCells _ (fun name kind cells=>by cases hkc:kind == NameKind.cell <;> simp [hkc]) _ _ _ _ ?_)
  have ok:=cellsFrom_ok scope.names (s.heap.push { cls := .type "frame",data := .dict #[] }) (s.heap.objs.size+1) [] ⟨fun _ _ hm=>(nomatch hm),List.Pairwise.nil⟩ (by rw [Heap.size_push];exact Nat.le_refl _)
  rw [Heap.size_push] at ok
  rw [show ({ s with heap:=s.heap.push { cls := .type "frame",data := .dict #[] } }:Shared).heap.objs.size=s.heap.objs.size+1 from Heap.size_push ..]
  refine wpAny_bind (xZ (s₀:=s) (env:=lM qual scope s.heap.objs.size f code cl) _ (fun _ _ _=>rfl) hk binds (fun _=>none) _ _
    ⟨⟨⟨_,_,rfl⟩,(Heap.Ns.new s.heap (.type "frame")).keeps (pushCells_keeps _ _),fun b o e=>pushCells_keeps _ _ b o (Heap.get?_push_of_some _ e),Nat.le_refl _⟩,fun n c hm=>ok.empty n c hm,ok.apart⟩ hloc fun s' x=>wpAny_pure (hQ s' x))
end
structure ScX (N ps:List Str) (x:Str) (sc:Scope):Prop where
  kind:sc.kind = .function
  co:sc.isCoroutine=false
  gen:sc.isGenerator=false
  nd:N.Nodup
  pre:N.take (ps.length+1)=x :: ps
  par:∀ y∈ps,sc.names.lookup y=some .local
  free:∀ y,sc.names.lookup y=some .free→y=x
  own:sc.names.lookup x=some .free
def cxX (qt:Bool) (CX:zP) (P:Program) (w:World) (K:PySem.W.Frag) (mg:Str→Option Value) (base:Heap) (N:List Str) (qual:Str) (scope:Scope) (f:Addr) (cd:Value) (x:Str) (cc:Addr) (A:Around) (outer:List Env) (s:Shared) (H:Hp) (E:XK):Cx where
  prog:=P
  w:=w
  K:=K
  mg:=mg
  base:=base
  A:=A.deeper (lM qual scope s.heap.objs.size f cd [(x,cc)])
  N:=N
  s₀:=s
  H₀:=H
  env:=lM qual scope s.heap.objs.size f cd [(x,cc)]
  outer:=outer
  stack:=lM qual scope s.heap.objs.size f cd [(x,cc)] :: outer
  ex:=[]
  calm:=!qt
  fn:=fun y=>!(y == x)
  pn:=[]
  tp:=[]
  xe:=fun e s'=>wpAny (model P w) (A.deeper (lM qual scope s.heap.objs.size f cd [(x,cc)])) (leaving (lM qual scope s.heap.objs.size f cd [(x,cc)]) e) (fun _ s''=>CX outer H s E e s'') (fun e' s''=>CX outer H s E e' s'') s'
instance aw6 {qt:Bool} {CX:zP} {P:Program} {w:World} {K:PySem.W.Frag} {mg:Str→Option Value} {base:Heap} {N:List Str} {qual:Str} {scope:Scope} {f:Addr} {cd:Value} {x:Str} {cc:Addr} {A:Around} {outer:List Env} {s s1:Shared} {H:Hp} {E:XK}:Tk (cxX qt CX P w K mg base N qual scope f cd x cc A outer s H E).need s1:=⟨fun z=>nomatch z⟩
theorem zT {α:Type} {n:Str}:∀ {l m:List (Str×α)} {c:α},(l++m).lookup n=some c→(n,c)∈l∨m.lookup n=some c
  | [],_,_,h => .inr h
  | (k,v) :: r,m,c,h=>by
    rw [List.cons_append,List.lookup_cons] at h
    cases hb:n == k with
    | true=>rw [hb] at h;cases h;rw [beq_iff_eq.mp hb];exact .inl (.head _)
    | false =>
      rw [hb] at h
      rcases zT h with z | z
      · exact .inl (.tail _ z)
      · exact .inr z
theorem rG:∀ {names:List (Str×NameKind)} {n:Nat} {acc:List (Str×Addr)} {y:Str} {c:Addr},(y,c)∈cellsFrom n names acc→(y,c)∈acc∨(y,NameKind.cell)∈names
  | [],_,_,_,_,h => .inl h
  | (name,kind) :: r,n,acc,y,c,h=>by
    unfold cellsFrom at h
    split at h
    · rename_i hk
      rcases rG h with z | z
      · rcases List.mem_cons.mp z with z | z
        · cases z
          exact .inr (by rw [beq_iff_eq.mp hk];exact .head _)
        · exact .inl z
      · exact .inr (.tail _ z)
    · rcases rG h with z | z
      · exact .inl z
      · exact .inr (.tail _ z)
theorem qW {α:Type} {n:Str}:∀ {l m:List (Str×α)},(∀ c,(n,c) ∉ l)→(l++m).lookup n=m.lookup n
  | [],_,_=>rfl
  | (k,v) :: r,m,h=>by
    rw [List.cons_append,List.lookup_cons]
    cases hb:n == k with
    | true=>exact absurd (by rw [beq_iff_eq.mp hb];exact .head _) (h v)
    | false=>exact qW fun c hc=>h c (.tail _ hc)
theorem rH {α:Type} {n:Str} {c:α}:∀ {l m:List (Str×α)},(l.lookup n=some c)→(l++m).lookup n=some c
  | (k,v) :: r,m,h=>by
    rw [List.cons_append,List.lookup_cons]
    rw [List.lookup_cons] at h
    cases hb:n == k with
    | true=>rw [hb] at h;exact h
    | false=>rw [hb] at h;exact rH h
theorem a82 {qt:Bool} {CX:zP} {P:Program} {w:World} {K:PySem.W.Frag} {mg:Str→Option Value} {base:Heap} {N ps:List Str} {qual x:Str} {scope:Scope} {f cc:Addr} {cd:Value} {A:Around} {outer:List Env} {s s1:Shared} {H:Hp} {E:XK} {us:List Value} {vs:List V} {vv:V} {u:Value}
    (S:ScX N ps x scope) (zU:∀ y∈scope.names,y.1=x→y.2 ≠ .cell) (hd:qt=false→A.handled=none) (e0:uJ P w K mg base A outer s H) (hl:vs.length=ps.length) (r:Vals vs us) (hc:s.heap.IsCell cc (some u)) (hH:H cc=none) (rv:RelV vv u)
    (y:InX s s.heap.objs.size (bindL (lM qual scope s.heap.objs.size f cd [(x,cc)]).kindOf (ps.zip us) fun _=>none) scope.names s1) :
    Inv (cxX qt CX P w K mg base N qual scope f cd x cc A outer s H E) [] (start N (vv :: vs)) H s1:=by
  have hpl:ps.length+1≤N.length:=by have:=congrArg List.length S.pre;rw [List.length_take] at this;simp at this;omega
  obtain ⟨h1,tk,rfl,hk⟩:=y.call.done
  have ccl:cc < s.heap.objs.size:=hc.lt
  have noA:∀ b:Addr,b ∉ (cxX qt CX P w K mg base N qual scope f cd x cc A outer s H E).ex:=fun b z=>absurd (show b∈([]:List Addr) from z) (by simp)
  have cells:(cxX qt CX P w K mg base N qual scope f cd x cc A outer s H E).env.cells=cellsFrom (s.heap.objs.size+1) scope.names []++[(x,cc)]:=iW _ _ _
  have split:∀ n c,(cxX qt CX P w K mg base N qual scope f cd x cc A outer s H E).env.cells.lookup n=some c→(n,c)∈cellsFrom (s.heap.objs.size+1) scope.names []∨(n=x∧c=cc):=fun n c h=>by
    rw [cells] at h
    rcases zT h with z | z
    · exact .inl z
    · rw [List.lookup_cons] at z
      cases hb:n == x with
      | true=>rw [hb] at z;cases z;exact .inr ⟨beq_iff_eq.mp hb,rfl⟩
      | false=>rw [hb] at z;cases z
  have lx:(cxX qt CX P w K mg base N qual scope f cd x cc A outer s H E).env.cells.lookup x=some cc:=by
    rw [cells,qW fun c hm=>?_]
    · simp
    · rcases rG hm with z | z
      · cases z
      · exact zU _ z rfl rfl
  have lt:∀ n c,(n,c)∈cellsFrom (s.heap.objs.size+1) scope.names []→s.heap.objs.size < c:=fun n c h=>(y.cell n c h).2
  refine ⟨⟨e0.mod,S.kind,rfl,rfl,Nat.le_refl _,fun n z c h1 h2=>?_,fun n hy=>?_,fun n c fn h=>?_,fun z=>hd (by cases qt with | false=>rfl | true=>cases z),Around.frames_deeper e0.frames,.inr ⟨rfl,rfl⟩,fun b z=>absurd z (noA b),e0.bs,e0.bsz,fun b _ _=>noA b,fun b z=>absurd z (noA b),e0.lK,e0.frf⟩,
    rfl,e0.bare,Un.kept hk,⟨_,y.call.ns,fun i n v h1 h2 h3=>?_⟩,fun n c h=>?_,e0.hok.fresh (Nat.le_refl _),fun n c h=>?_,fun p hp=>absurd (show p∈([]:List (Addr×Obj)) from hp) (by simp),e0.hok.kept hk,?_,e0.hnd,fun p hp=>absurd (show p∈([]:List (Addr×List V)) from hp) (by simp)⟩
  · rcases split n c h1 with a | ⟨a,a'⟩ <;> rcases split z c h2 with b | ⟨b,b'⟩
    · exact name_of_addr y.apart a b
    · exact absurd (lt _ _ a) (by rw [b'];exact Nat.not_lt.mpr (Nat.le_of_lt ccl))
    · exact absurd (lt _ _ b) (by rw [a'];exact Nat.not_lt.mpr (Nat.le_of_lt ccl))
    · rw [a,b]
  · have hy:scope.names.lookup n=some .cell∨scope.names.lookup n=some .free:=hy
    rcases hy with hy | hy
    · obtain ⟨c,e⟩:=vB (n:=s.heap.objs.size+1) hy
      exact ⟨c,by rw [cells];exact rH e⟩
    · rw [S.free n hy];exact ⟨cc,lx⟩
  · rcases split n c h with a | ⟨rfl,rfl⟩
    · exact Nat.le_of_lt (lt _ _ a)
    · have fn:(!(n == n))=true:=fn
      simp at fn
  · unfold start at h2
    cases i with
    | zero =>
      have e1:x=n:=by
        have:=congrArg (fun l=>l[0]?) S.pre
        rw [List.getElem?_take_of_lt (by omega)] at this
        have h1:N[0]?=some n:=h1
        rw [h1] at this
        simp at this
        exact this.symm
      subst e1
      simp at h2
      subst h2
      obtain ⟨o,ho,hod⟩:=hc
      exact ⟨u,rv,.inr ⟨.inr S.own,cc,lx,o,hk _ _ ho,hod⟩⟩
    | succ i =>
      have hi:i < vs.length:=by
        by_cases hi:i < vs.length
        · exact hi
        · rw [List.getElem?_append_right (by simp;omega)] at h2
          rw [List.getElem?_replicate] at h2
          split at h2 <;> cases h2
      have ha:vs[i]?=some v:=by
        rw [List.getElem?_append_left (by simp;omega),List.getElem?_map,List.getElem?_cons_succ] at h2
        cases e:vs[i]? with
        | none=>rw [e] at h2;cases h2
        | some a=>rw [e] at h2;cases h2;rfl
      obtain ⟨uu,hu,rvv⟩:=r.get ha
      have hp:ps[i]?=some n:=by
        have:=congrArg (fun l=>l[i+1]?) S.pre
        rw [List.getElem?_take_of_lt (by omega)] at this
        have h1:N[i+1]?=some n:=h1
        rw [h1] at this
        simpa using this.symm
      have ndP:ps.Nodup:=by
        have:(x :: ps).Nodup:=by rw [← S.pre];exact S.nd.sublist (List.take_sublist _ _)
        exact (List.nodup_cons.mp this).2
      have k:=S.par n (List.mem_of_getElem? hp)
      exact ⟨uu,rvv,.inl ⟨k,wQ ndP hp hu k⟩⟩
  · rcases split n c h with a | ⟨rfl,rfl⟩
    · exact ⟨_,(y.cell n c a).1⟩
    · obtain ⟨o,ho,hod⟩:=hc
      exact ⟨_,o,hk _ _ ho,hod⟩
  · rcases split n c h with a | ⟨rfl,rfl⟩
    · exact e0.hok.fresh (Nat.le_of_lt (lt _ _ a))
    · exact hH
  · unfold start
    show _=N.length
    rw [List.length_append,List.length_map,List.length_replicate]
    simp
    omega
def tU (H:Hp) (a:Addr):Hp:=fun b=>if b=a then none else H b
theorem vL {H:Hp} {a:Addr}:tU H a a=none:=if_pos rfl
theorem lN {H:Hp} {a b:Addr} (h:b≠a):tU H a b=H b:=if_neg h
theorem rJ {H:Hp} {a b:Addr} (h:H b=none):tU H a b=none:=by
  unfold tU
  split
  · rfl
  · exact h
theorem nR.tU {P:Program} {w:World} {H:Hp} {h:Heap} {a:Addr} {o:Obj} {u:HO} (x:nR P w H h) (e:H a=some (.mZ o u)):nR P w (tU H a) h:=fun b v q=>by
  by_cases z:b=a
  · subst z;rw [vL] at q;cases q
  · rw [lN z] at q
    exact (x b v q).stay (fun _ _ _ h=>h) (fun c hc=>by rw [lN (rB hc e (fun z=>by cases z))];exact hc) fun c xs hc=>by rw [lN (rB hc e (fun z=>by cases z))];exact hc
theorem ahK {qt:Bool} {CX:zP} {P:Program} {w:World} {K:PySem.W.Frag} {mg:Str→Option Value} {base:Heap} {k:Nat} {name qual x:Str} {params:Arguments} {body:List Stmt} {scope:Scope} {N ps:List Str} (S:ScX N ps x scope) (zU:∀ y∈scope.names,y.1=x→y.2 ≠ .cell)
    {A:Around} {outer:List Env} {s:Shared} {H:Hp} {args:Args} {us:List Value} {vs:List V} {Q:VK} {E:XK} {f cc c':Addr} {doc pm ctv:Value} {ob:Obj} {u:Value} {vv:V}
    (hr:cH qt (k+1) A) (e0:uJ P w K mg base A outer s H) (hf:H f=some (wX (fnMade name qual params body scope [(x,cc)] doc pm c' ctv))) (rc:qU H c' qual) (hc:H cc=some (wX ob)) (hob:ob.data = .cell (some u)) (rv:RelV vv u) (hh:A.handled=none)
    (hb:BindsTo s (fnX name qual params body scope [(x,cc)] .none .none doc pm none (.ref c') ctv) args (ps.zip us)) (r:Vals vs us) (hl:vs.length=ps.length) (hCX:∀ e s',CX outer (tU H cc) s (fun _ _ _=>False) e s'→False)
    (hbody:cH qt k (A.deeper (lM qual scope s.heap.objs.size f (.ref c') [(x,cc)]))→∃ t,z8 (cxX qt CX P w K mg base N qual scope f (.ref c') x cc A outer s (tU H cc) (fun _ _ _=>False)) body t ∧
      t { nx:=fun _ H'=>H' cc=none→Q .non (upd H' cc (wX ob)),rt:=fun v H'=>H' cc=none→Q v (upd H' cc (wX ob)) } (start N (vv :: vs)) (tU H cc)) :
    codeAny (model P w) A (.call (.ref f) args) (CR CX outer P w H s Q E) s:=by
  have of':s.heap.get? f=some (fnMade name qual params body scope [(x,cc)] doc pm c' ctv):=(e0.hok f _ hf).1
  have oc':s.heap.get? cc=some ob:=(e0.hok cc _ hc).1
  have lim:s.heap.NoLimit:=e0.mod.nolimit.keeps fun b o e=>(e0.bs b o e).1
  have hrec:s.heap.CodeRec (.ref c') qual:=by
    obtain ⟨oo,vs',t,e,d,q⟩:=rc
    exact ⟨c',oo,vs',t,rfl,(e0.hok c' _ e).1,d,q⟩
  have ncc:cc ∉ frs outer:=fun z=>by have:=e0.frf cc z;rw [hc] at this;cases this
  have e1:uJ P w K mg base A outer s (tU H cc):=⟨e0.frames,e0.mod,fun b o e=>⟨(e0.bs b o e).1,rJ (e0.bs b o e).2⟩,e0.bsz,e0.lK,fun b z=>rJ (e0.frf b z),e0.hok.tU hc,e0.bare,.inl hh⟩
  have hloc:∀ y∈ps.zip us,scope.names.lookup y.1=some .local:=fun ⟨n,v⟩ hy=>S.par n (List.of_mem_zip hy).1
  refine codeAny_call_function hr.depth of' rfl S.co S.gen rfl hrec (hb _ _ _ _ ?_)
  refine ahJ S.kind hloc fun s1 y=>?_
  refine ⟨lim.keeps y.call.keep,codeAny_func ?_⟩
  obtain ⟨t,ht,hq⟩:=hbody (hr.deeper _)
  have I:Inv (cxX qt CX P w K mg base N qual scope f (.ref c') x cc A outer s (tU H cc) (fun _ _ _=>False)) [] (start N (vv :: vs)) (tU H cc) s1:=a82 S zU hr.hd e1 hl r ⟨ob,oc',hob⟩ vL rv y
  refine wpAny_mono (ht [] s1 (start N (vv :: vs)) (tU H cc) _ I hq) (fun fl s' hs=>?_) fun e s' hs=>wpAny_mono hs (fun _ s'' z=>(hCX _ _ z).elim) fun e' s'' z=>(hCX _ _ z).elim
  have fin:∀ {σ':St} {H':Hp} {v:V} {uu:Value},Inv (cxX qt CX P w K mg base N qual scope f (.ref c') x cc A outer s (tU H cc) (fun _ _ _=>False)) [] σ' H' s'→RelV v uu→(H' cc=none→Q v (upd H' cc (wX ob)))→CE outer P w H s Q uu s':=fun {σ' H' v uu} J rv q=>by
    have b:=J.base
    have n:H' cc=none:=b.free cc ob oc' vL (by intro z;cases z)
    have o2:s'.heap.get? cc=some ob:=b.keep cc ob oc' vL ncc (by intro z;cases z)
    have ne:∀ c,H c=none→c≠cc:=fun c m z=>by subst z;rw [hc] at m;cases m
    refine ⟨v,upd H' cc (wX ob),J.os,J.bare,⟨fun c o q m=>b.keep c o q (rJ m),fun c o q m=>b.slot c o q (rJ m),fun c o q m hx=>?_,b.there,fun c xs q0=>?_,fun c o w1 q0=>?_,fun c qs q0=>?_⟩,J.hok.adopt n o2,rv,q n⟩
    · rw [aK (ne c m)];exact b.free c o q (rJ m) hx
    · have z:=rB q0 hc (fun z=>by cases z)
      rw [aK z];exact b.tups c xs (by rw [show (cxX qt CX P w K mg base N qual scope f (.ref c') x cc A outer s (tU H cc) (fun _ _ _=>False)).H₀=tU H cc from rfl,lN z];exact q0)
    · by_cases z:c=cc
      · subst z;rw [hc] at q0;cases q0;exact aJ
      · rw [aK z];exact b.d9 c o w1 (by rw [show (cxX qt CX P w K mg base N qual scope f (.ref c') x cc A outer s (tU H cc) (fun _ _ _=>False)).H₀=tU H cc from rfl,lN z];exact q0)
    · have z:=rB q0 hc (fun z=>by cases z)
      obtain ⟨more,e⟩:=b.jO c qs (by rw [show (cxX qt CX P w K mg base N qual scope f (.ref c') x cc A outer s (tU H cc) (fun _ _ _=>False)).H₀=tU H cc from rfl,lN z];exact q0)
      exact ⟨more,by rw [aK z];exact e⟩
  cases fl with
  | ret u =>
    obtain ⟨v,σ',H',J,rv,q⟩:=hs
    exact fin J rv q
  | next =>
    obtain ⟨σ',H',J,q⟩:=hs
    exact fin (v:=V.non) (uu:=Value.none) J rfl q
  | brk =>
    obtain ⟨_,_,_,q⟩:=hs
    exact False.elim q
  | cont =>
    obtain ⟨_,_,_,q⟩:=hs
    exact False.elim q
end L2
namespace L2
open PySem PySem.Spec PyProof.Rows
inductive D where
  | non | bl (b:Bool) | int (i:Int) | str (x:Str) | tup (xs:List D) | ref (a:Addr) | ty (n:String)
abbrev Fg:=PySem.W.Frag
abbrev a69 (H:Hp) (a:Addr) (xs:List V):Prop:=True
theorem ahL {H:Hp} {a:Addr} {xs:List V} (h:H a=some (.tup xs)):a69 H a xs:=trivial
mutual
inductive RD (K:Fg) (H:Hp):D→V→Prop where
  | non:RD K H .non .non
  | bl (b:Bool):RD K H (.bl b) (.bl b)
  | int (i:Int):RD K H (.int i) (.int i)
  | str (x:Str):RD K H (.str x) (.str x)
  | ty (n:String):RD K H (.ty n) (.ty n)
  | ref (a:Addr):RD K H (.ref a) (.ref a)
  | tup {a:Addr} {xs:List V} {ds:List D}:rD K H a xs→bM K H ds xs→a69 H a xs→RD K H (.tup ds) (.ref a)
inductive bM (K:Fg) (H:Hp):List D→List V→Prop where
  | nil:bM K H [] []
  | cons {d:D} {v:V} {ds:List D} {vs:List V}:RD K H d v→bM K H ds vs→bM K H (d :: ds) (v :: vs)
end
structure Ts (H H':Hp):Prop where
  tups:∀ a xs,H a=some (.tup xs)→H' a=some (.tup xs)
  d9:∀ a o u,H a=some (.mZ o u)→H' a=some (.mZ o u)
theorem Ts.refl (H:Hp):Ts H H:=⟨fun _ _ h=>h,fun _ _ _ h=>h⟩
theorem Ts.trans {H H1 H2:Hp} (a:Ts H H1) (b:Ts H1 H2):Ts H H2:=⟨fun c xs h=>b.tups c xs (a.tups c xs h),fun c o u h=>b.d9 c o u (a.d9 c o u h)⟩
theorem Ts.same {H H':Hp} (s:Same H H'):Ts H H':=⟨fun a _ h=>s a _ h,fun a _ _ h=>s a _ h⟩
theorem Ts.rd {H H':Hp} (t:Ts H H') {a:Addr} {xs:List V} (h:Rd H a (.tup xs)):Rd H' a (.tup xs):=by
  rcases h with h | ⟨o,h⟩
  · exact .inl (t.tups _ _ h)
  · exact .inr ⟨o,t.d9 _ _ _ h⟩
theorem Ts.sqT {K:Fg} {H H':Hp} (t:Ts H H') {a:Addr} {xs:List V} (h:rD K H a xs):rD K H' a xs:=h.elim (fun q => .inl (t.rd q)) .inr
theorem a69.mono {H H':Hp} (t:Ts H H') {a:Addr} {xs:List V} (h:a69 H a xs):a69 H' a xs:=trivial
theorem bB {H:Hp} {p:Addr} {o:HO} (h:H p=none):Same H (upd H p o):=fun b u e=>by
  rw [aK (aP e h)];exact e
mutual
theorem RD.mono {K:Fg} {H H':Hp} (t:Ts H H'):∀ {d:D} {v:V},RD K H d v→RD K H' d v
  | _,_,.non => .non
  | _,_,.bl b => .bl b
  | _,_,.int i => .int i
  | _,_,.str x => .str x
  | _,_,.ty n => .ty n
  | _,_,.ref a => .ref a
  | _,_,.tup h r e => .tup (t.sqT h) (bM.mono t r) (e.mono t)
theorem bM.mono {K:Fg} {H H':Hp} (t:Ts H H'):∀ {ds:List D} {vs:List V},bM K H ds vs→bM K H' ds vs
  | _,_,.nil => .nil
  | _,_,.cons h r => .cons (RD.mono t h) (bM.mono t r)
end
section
variable {K:Fg} {H:Hp}
theorem bM.length:∀ {ds:List D} {vs:List V},bM K H ds vs→ds.length=vs.length
  | _,_,.nil=>rfl
  | _,_,.cons _ r=>congrArg (·+1) (bM.length r)
theorem bM.append:∀ {ds:List D} {vs:List V} {es:List D} {ws:List V},bM K H ds vs→bM K H es ws→bM K H (ds++es) (vs++ws)
  | _,_,_,_,.nil,s=>s
  | _,_,_,_,.cons h r,s => .cons h (bM.append r s)
theorem bM.get:∀ {ds:List D} {vs:List V} {i:Nat} {d:D},bM K H ds vs→ds[i]?=some d→∃ v,vs[i]?=some v∧RD K H d v
  | _,_,_,_,.nil,e=>by simp at e
  | _,_,0,_,.cons r _,e=>by simp at e;subst e;exact ⟨_,rfl,r⟩
  | _,_,i+1,d,.cons _ t,e=>by
    obtain ⟨u,h1,h2⟩:=bM.get (i:=i) (d:=d) t (by simpa using e)
    exact ⟨u,by simpa using h1,h2⟩
theorem bM.ahM:∀ {ds:List D} {vs:List V} {i:Nat} {v:V},bM K H ds vs→vs[i]?=some v→∃ d,ds[i]?=some d∧RD K H d v
  | _,_,_,_,.nil,e=>by simp at e
  | _,_,0,_,.cons r _,e=>by simp at e;subst e;exact ⟨_,rfl,r⟩
  | _,_,i+1,d,.cons _ t,e=>by
    obtain ⟨u,h1,h2⟩:=bM.ahM (i:=i) (v:=d) t (by simpa using e)
    exact ⟨u,by simpa using h1,h2⟩
theorem bM.set {d:D} {v:V} (r:RD K H d v):∀ {ds:List D} {vs:List V} (i:Nat),bM K H ds vs→bM K H (ds.set i d) (vs.set i v)
  | _,_,_,.nil => .nil
  | _,_,0,.cons _ t => .cons r t
  | _,_,i+1,.cons q t => .cons q (bM.set r i t)
theorem bM.drop:∀ {ds:List D} {vs:List V} (n:Nat),bM K H ds vs→bM K H (ds.drop n) (vs.drop n)
  | _,_,0,r=>r
  | _,_,_+1,.nil => .nil
  | _,_,n+1,.cons _ t=>bM.drop n t
theorem bM.take:∀ {ds:List D} {vs:List V} (n:Nat),bM K H ds vs→bM K H (ds.take n) (vs.take n)
  | _,_,0,_ => .nil
  | _,_,_+1,.nil => .nil
  | _,_,n+1,.cons r t => .cons r (bM.take n t)
theorem bM.ints (ns:List Int):bM K H (ns.map D.int) (ns.map V.int):=by
  induction ns with
  | nil=>exact .nil
  | cons n r ih=>exact .cons (.int n) ih
theorem bM.vH {ds:List D} {vs:List V} (r:bM K H ds vs):vs=[]↔ds=[]:=by
  cases r <;> simp
end
abbrev DK:=Key ⊕ List Key
structure vM where
  name:Str
  qual:Str
  params:Arguments
  body:List Stmt
  scope:Scope
  x:Str
inductive GO where
  | lst (ds:List D) | rol (ds:List D) | tV (t:Bool) (kvs:List (DK×D)) | ins (C:Addr) (fs:List (Str×D)) | z9 (C:Addr) | rdc (o:Obj) (t:Bool) (kvs:List (DK×D)) | tpl (ds:List D) | kst (ks:List (List Int)) | tab (q:Str) (p:Pos) | clo (c:vM) (d:D)
abbrev Gp:=Addr→Option GO
def aL (G:Gp) (a:Addr) (o:GO):Gp:=fun b=>if b=a then some o else G b
theorem aF {G:Gp} {a:Addr} {o:GO}:aL G a o a=some o:=by unfold aL;rw [if_pos rfl]
theorem cG {G:Gp} {a b:Addr} {o:GO} (h:b≠a):aL G a o b=G b:=by unfold aL;rw [if_neg h]
theorem aR {G:Gp} {a b:Addr} {o u:GO} (h:G b=some u) (n:G a=none):aL G a o b=some u:=by
  rw [cG];exact h
  intro e;subst e;rw [h] at n;cases n
def Le (G G':Gp):Prop:=∀ a o,G a=some o→G' a=some o
theorem Le.refl (G:Gp):Le G G:=fun _ _ h=>h
theorem Le.trans {G G1 G2:Gp} (a:Le G G1) (b:Le G1 G2):Le G G2:=fun c o h=>b c o (a c o h)
theorem Le.new {G:Gp} {a:Addr} {o:GO} (n:G a=none):Le G (aL G a o):=fun _ _ h=>aR h n
theorem Le.free {G G':Gp} (l:Le G G') {a:Addr} (h:G' a=none):G a=none:=by
  cases q:G a with
  | none=>rfl
  | some o=>have:=l a o q;rw [h] at this;cases this
def kD:Key→D
  | .inl i => .int i
  | .inr x => .str x
def dkD:DK→D
  | .inl k=>kD k
  | .inr ks => .tup (ks.map kD)
inductive Two {α β:Type} (P:α→β→Prop):List α→List β→Prop where
  | nil:Two P [] []
  | cons {a:α} {b:β} {as:List α} {bs:List β}:P a b→Two P as bs→Two P (a :: as) (b :: bs)
theorem Two.imp {α β:Type} {P Q:α→β→Prop} (f:∀ a b,P a b→Q a b):∀ {as:List α} {bs:List β},Two P as bs→Two Q as bs
  | _,_,.nil => .nil
  | _,_,.cons h r => .cons (f _ _ h) (Two.imp f r)
theorem Two.length {α β:Type} {P:α→β→Prop}:∀ {as:List α} {bs:List β},Two P as bs→as.length=bs.length
  | _,_,.nil=>rfl
  | _,_,.cons _ r=>congrArg (·+1) (Two.length r)
def tY (C a:Addr) (h:Heap):Prop:=∃ o vs,h.get? a=some o∧o.cls = .ref C∧o.data = .fields vs
def toI (ks:List Key):List Int:=ks.map fun k=>match k with
  | .inl i=>i
  | .inr _=>0
def aw7 (P:Program) (w:World) (a:Addr) (xs:List (List Key×Addr×Value)) (h:Heap):Prop:=(a == sysModules)=false∧∃ o es ep,h.get? a=some o∧o.ExactDict∧o.data = .dict es ep∧es.toList=xs.map (entryOfKey (tupleKind (c7 P w)))∧(xs.map (·.1)).Nodup
def OR (K:Fg) (H:Hp) (a:Addr):GO→Prop
  | .lst ds=>∃ xs,H a=some (.lst xs)∧bM K H ds xs
  | .rol ds=>∃ xs,tX K H a xs∧bM K H ds xs
  | .tV t kvs=>(t=false∧∃ xs:List (Key×V),H a=some (.dK xs)∧Two (fun p q=>p.1 = .inl q.1∧RD K H p.2 q.2) kvs xs) ∨
      (t=true∧∃ xs:List (List Key×V),H a=some (.dT xs)∧Two (fun p q=>p.1 = .inr q.1∧RD K H p.2 q.2) kvs xs)
  | .ins C fs=>∃ (dx:Addr) (vs:List (Str×V)),H a=some (.ins C dx vs)∧Two (fun p q=>p.1=q.1∧RD K H p.2 q.2) fs vs
  | .rdc o t kvs=>(t=false∧∃ xs:List (Key×V),H a=some (.mZ o (.dK xs))∧Two (fun p q=>p.1 = .inl q.1∧RD K H p.2 q.2) kvs xs) ∨
      (t=true∧∃ xs:List (List Key×V),H a=some (.mZ o (.dT xs))∧Two (fun p q=>p.1 = .inr q.1∧RD K H p.2 q.2) kvs xs)
  | .tpl ds=>∃ xs,rD K H a xs∧bM K H ds xs
  | .tab q p=>∃ ps,H a=some (.xU ps)∧xY H q p ps
  | .clo c d=>∃ (cc c':Addr) (doc pm ctv:Value) (ob:Obj) (u:Value) (v:V),H a=some (wX (PySem.W.fnMade c.name c.qual c.params c.body c.scope [(c.x,cc)] doc pm c' ctv))∧qU H c' c.qual∧H cc=some (wX ob)∧ob.data = .cell (some u)∧RelV v u∧RD K H d v
  | .kst ks=>∃ (P:Program) (w:World) (xs:List (List Key×Addr×Value)),H a=some (.ext (aw7 P w a xs))∧(xs.map fun x=>toI x.1)=ks∧∀ x∈xs,x.1=(toI x.1).map Sum.inl∧rD K H x.2.1 (x.1.map kV)
  | .z9 C=>∃ o vs,H a=some (.mZ o (.ext (tY C a)))∧o.data = .fields vs∧vs[2]?=some .none
def HR (K:Fg) (H:Hp) (G:Gp):Prop:=∀ a o,G a=some o→OR K H a o
theorem OR.keep {K:Fg} {H H':Hp} {a:Addr} {o:GO} (t:Ts H H') (h:OR K H a o) (k:∀ u,H a=some u→H' a=some u):OR K H' a o:=by
  cases o with
  | lst ds=>obtain ⟨xs,e,r⟩:=h;exact ⟨xs,k _ e,r.mono t⟩
  | rol ds =>
    obtain ⟨xs,e,r⟩:=h
    refine ⟨xs,?_,r.mono t⟩
    rcases e with (e | ⟨o,e⟩) | e
    · exact .inl (.inl (k _ e))
    · exact .inl (.inr ⟨o,k _ e⟩)
    · exact .inr e
  | tV b kvs =>
    rcases h with ⟨z,xs,e,r⟩ | ⟨z,xs,e,r⟩
    · exact .inl ⟨z,xs,k _ e,r.imp fun _ _ q=>⟨q.1,q.2.mono t⟩⟩
    · exact .inr ⟨z,xs,k _ e,r.imp fun _ _ q=>⟨q.1,q.2.mono t⟩⟩
  | ins C fs=>obtain ⟨dx,vs,e,r⟩:=h;exact ⟨dx,vs,k _ e,r.imp fun _ _ q=>⟨q.1,q.2.mono t⟩⟩
  | rdc ob b kvs =>
    rcases h with ⟨z,xs,e,r⟩ | ⟨z,xs,e,r⟩
    · exact .inl ⟨z,xs,k _ e,r.imp fun _ _ q=>⟨q.1,q.2.mono t⟩⟩
    · exact .inr ⟨z,xs,k _ e,r.imp fun _ _ q=>⟨q.1,q.2.mono t⟩⟩
  | z9 C=>obtain ⟨o,vs,e,r⟩:=h;exact ⟨o,vs,k _ e,r⟩
  | tpl ds=>obtain ⟨xs,e,r⟩:=h;exact ⟨xs,t.sqT e,r.mono t⟩
  | kst ks=>obtain ⟨P,w,xs,e,r,q⟩:=h;exact ⟨P,w,xs,k _ e,r,fun x hx=>⟨(q x hx).1,t.sqT (q x hx).2⟩⟩
  | tab q p=>obtain ⟨ps,e,r⟩:=h;exact ⟨ps,k _ e,r.keep fun a o φ=>t.d9 a o _⟩
  | clo c d=>obtain ⟨cc,c',doc,pm,ctv,ob,u,v,e1,e2,e3,e4,e5,e6⟩:=h;exact ⟨cc,c',doc,pm,ctv,ob,u,v,k _ e1,e2.keep fun a o φ=>t.d9 a o _,t.d9 _ _ _ e3,e4,e5,e6.mono t⟩
theorem HR.same {K:Fg} {H H':Hp} {G:Gp} (h:HR K H G) (s:Same H H'):HR K H' G:=fun a o e=>(h a o e).keep (.same s) fun u q=>s a u q
theorem HR.le {K:Fg} {H:Hp} {G G':Gp} (h:HR K H G') (l:Le G G'):HR K H G:=fun a o e=>h a o (l a o e)
theorem HR.put {K:Fg} {H:Hp} {G:Gp} {p:Addr} {o:HO} {u:GO} (h:HR K H G) (n:H p=none) (new:OR K (upd H p o) p u):HR K (upd H p o) (aL G p u):=fun a v e=>by
  by_cases q:a=p
  · subst q;rw [aF] at e;cases e;exact new
  · rw [cG q] at e
    exact (h a v e).keep (.same (bB n)) fun w z=>bB n a w z
theorem HR.turn {K:Fg} {H:Hp} {G:Gp} {p:Addr} {o:HO} {u:GO} (h:HR K H G) (t:Ts H (upd H p o)) (new:OR K (upd H p o) p u):HR K (upd H p o) (aL G p u):=fun a v e=>by
  by_cases q:a=p
  · subst q;rw [aF] at e;cases e;exact new
  · rw [cG q] at e
    exact (h a v e).keep t fun w z=>by rw [aK q];exact z
theorem Ts.turn {H:Hp} {p:Addr} {o u:HO} (e:H p=some u) (h1:∀ xs,u ≠ .tup xs) (h2:∀ ob w,u ≠ .mZ ob w):Ts H (upd H p o):=by
  refine ⟨fun a xs q=>?_,fun a ob w q=>?_⟩
  · rw [aK];exact q
    intro z;subst z;rw [e] at q;exact h1 xs (Option.some.inj q)
  · rw [aK];exact q
    intro z;subst z;rw [e] at q;exact h2 ob w (Option.some.inj q)
abbrev aN:=List (Option D)
abbrev dG:=D→Gp→Prop
abbrev cB:=aN→Gp→dG→Prop
abbrev uM:=aN→Gp→(Bool→Gp→Prop)→Prop
abbrev n6:=aN→Gp→(List D→Gp→Prop)→Prop
def at3:aN→Nat→Option D
  | [],_=>none
  | x :: _,0=>x
  | _ :: r,n+1=>at3 r n
def tW:aN→Nat→D→aN
  | [],_,_=>[]
  | _ :: r,0,d=>some d :: r
  | x :: r,n+1,d=>x :: tW r n d
inductive SR (K:Fg) (H:Hp):aN→St→Prop where
  | nil:SR K H [] []
  | none {ρ:aN} {σ:St} {v:Option V}:SR K H ρ σ→SR K H (Option.none :: ρ) (v :: σ)
  | some {ρ:aN} {σ:St} {d:D} {v:V}:RD K H d v→SR K H ρ σ→SR K H (Option.some d :: ρ) (Option.some v :: σ)
theorem SR.mono {K:Fg} {H H':Hp} (t:Ts H H'):∀ {ρ:aN} {σ:St},SR K H ρ σ→SR K H' ρ σ
  | _,_,.nil => .nil
  | _,_,.none r => .none (SR.mono t r)
  | _,_,.some h r => .some (h.mono t) (SR.mono t r)
theorem SR.get {K:Fg} {H:Hp}:∀ {ρ:aN} {σ:St} {i:Nat} {d:D},SR K H ρ σ→at3 ρ i=Option.some d→∃ v,σ[i]?=Option.some (Option.some v)∧RD K H d v
  | _,_,_,_,.nil,e=>by simp [at3] at e
  | _,_,0,_,.none _,e=>by simp [at3] at e
  | _,_,0,_,.some h _,e=>by simp [at3] at e;subst e;exact ⟨_,rfl,h⟩
  | _,_,i+1,_,.none r,e=>by
    obtain ⟨v,h1,h2⟩:=SR.get (i:=i) r (by simpa [at3] using e)
    exact ⟨v,by simpa using h1,h2⟩
  | _,_,i+1,_,.some _ r,e=>by
    obtain ⟨v,h1,h2⟩:=SR.get (i:=i) r (by simpa [at3] using e)
    exact ⟨v,by simpa using h1,h2⟩
theorem SR.set {K:Fg} {H:Hp} {d:D} {v:V} (q:RD K H d v):∀ {ρ:aN} {σ:St} (i:Nat),SR K H ρ σ→SR K H (tW ρ i d) (σ.set i (Option.some v))
  | _,_,_,.nil => .nil
  | _,_,0,.none r => .some q r
  | _,_,0,.some _ r => .some q r
  | _,_,i+1,.none r => .none (SR.set q i r)
  | _,_,i+1,.some h r => .some h (SR.set q i r)
theorem SR.len {K:Fg} {H:Hp}:∀ {ρ:aN} {σ:St},SR K H ρ σ→ρ.length=σ.length
  | _,_,.nil=>rfl
  | _,_,.none r=>congrArg (·+1) (SR.len r)
  | _,_,.some _ r=>congrArg (·+1) (SR.len r)
def lO (n:Nat) (ds:List D):aN:=ds.map Option.some++List.replicate (n - ds.length) Option.none
theorem SR.nones {K:Fg} {H:Hp}:∀ n:Nat,SR K H (List.replicate n Option.none) (List.replicate n Option.none)
  | 0 => .nil
  | n+1 => .none (SR.nones n)
theorem SR.entry {K:Fg} {H:Hp} {k:Nat}:∀ {ds:List D} {vs:List V},bM K H ds vs→SR K H (ds.map Option.some++List.replicate k Option.none) (vs.map Option.some++List.replicate k Option.none)
  | _,_,.nil=>SR.nones k
  | _,_,.cons h r => .some h (SR.entry r)
def upE (K:Fg) (t:cB):TE:=fun σ H Q=>∃ ρ G R,SR K H ρ σ∧HR K H G∧t ρ G R∧∀ v H' d G',Ts H H'→RD K H' d v→HR K H' G'→R d G'→Q v H'
def upT (K:Fg) (t:uM):TT:=fun σ H Q=>∃ ρ G R,SR K H ρ σ∧HR K H G∧t ρ G R∧∀ b H' G',Ts H H'→HR K H' G'→R b G'→Q b H'
def upA (K:Fg) (t:n6):TA:=fun σ H Q=>∃ ρ G R,SR K H ρ σ∧HR K H G∧t ρ G R∧∀ vs H' ds G',Ts H H'→bM K H' ds vs→HR K H' G'→R ds G'→Q vs H'
abbrev cI (X:Cx) (e:Expr) (t:cB):Prop:=PE X e (upE X.K t)
abbrev PT3 (X:Cx) (e:Expr) (t:uM):Prop:=PT X e (upT X.K t)
abbrev PW3 (X:Cx) (e:Expr) (t:uM):Prop:=PW X e (upT X.K t)
abbrev PA3 (X:Cx) (es:List Expr) (t:n6):Prop:=PA X es (upA X.K t)
structure iG where
  nx:aN→Gp→Prop
  rt:dG
  bk:aN→Gp→Prop:=fun _ _=>False
  ct:aN→Gp→Prop:=fun _ _=>False
abbrev bK:=iG→aN→Gp→Prop
structure UpD (K:Fg) (E:iG) (F:Ends):Prop where
  nx:∀ ρ G σ H',SR K H' ρ σ→HR K H' G→E.nx ρ G→F.nx σ H'
  rt:∀ d G v H',RD K H' d v→HR K H' G→E.rt d G→F.rt v H'
  bk:∀ ρ G σ H',SR K H' ρ σ→HR K H' G→E.bk ρ G→F.bk σ H'
  ct:∀ ρ G σ H',SR K H' ρ σ→HR K H' G→E.ct ρ G→F.ct σ H'
def upS (K:Fg) (t:bK):TS:=fun F σ H=>∃ ρ G E,SR K H ρ σ∧HR K H G∧t E ρ G∧UpD K E F
abbrev PS3 (X:Cx) (st:Stmt) (t:bK):Prop:=PS X st (upS X.K t)
abbrev uN (X:Cx) (st:List Stmt) (t:bK):Prop:=z8 X st (upS X.K t)
section
variable {X:Cx}
theorem PE.imp {e:Expr} {t t':TE} (h:PE X e t) (k:∀ σ H Q,t' σ H Q→t σ H Q):PE X e t':=fun pins s σ H Q I q=>h pins s σ H Q I (k _ _ _ q)
theorem PT.imp {e:Expr} {t t':TT} (h:PT X e t) (k:∀ σ H Q,t' σ H Q→t σ H Q):PT X e t':=fun pins s σ H Q I q=>h pins s σ H Q I (k _ _ _ q)
theorem PW.imp {e:Expr} {t t':TT} (h:PW X e t) (k:∀ σ H Q,t' σ H Q→t σ H Q):PW X e t':=fun wh pins s σ H Q I q=>h wh pins s σ H Q I (k _ _ _ q)
theorem PA.imp {e:List Expr} {t t':TA} (h:PA X e t) (k:∀ σ H Q,t' σ H Q→t σ H Q):PA X e t':=fun p pins s σ H Q I q=>h p pins s σ H Q I (k _ _ _ q)
theorem PS.imp {e:Stmt} {t t':TS} (h:PS X e t) (k:∀ F σ H,t' F σ H→t F σ H):PS X e t':=fun pins s σ H F I q=>h pins s σ H F I (k _ _ _ q)
def KF (K:Fg) (H:Hp):Prop:=∀ b o,K.lookup b=some o→H b=none
theorem rK {pins:List (Addr×Obj)} {σ:St} {H:Hp} {s:Shared} (I:Inv X pins σ H s):KF X.K H:=fun b o e=>(I.bs b o (I.ok.mod.kin b o e)).2
theorem PE.kf {e:Expr} {t:TE} (h:PE X e t):PE X e (fun σ H Q=>t σ H fun v H'=>KF X.K H'→Q v H'):=fun pins s σ H Q I q =>
  cV (h pins s σ H _ I q) fun _ _ ⟨v,H',I',r,q'⟩=>⟨v,H',I',r,q' (rK I')⟩
theorem z8.imp {e:List Stmt} {t t':TS} (h:z8 X e t) (k:∀ F σ H,t' F σ H→t F σ H):z8 X e t':=fun pins s σ H F I q=>h pins s σ H F I (k _ _ _ q)
end
theorem lQ {K:Fg} {H:Hp} {G:Gp} {p:Addr} {o:HO} (g:HR K H G) (n:H p=none) (k:KF K (upd H p o)):G p=none:=by
  have kn:K.lookup p=none:=by
    cases q:K.lookup p with
    | none=>rfl
    | some u=>have:=k p u q;rw [aJ] at this;cases this
  cases q:G p with
  | none=>rfl
  | some u =>
    have z:=g p u q
    cases u with
    | lst ds=>obtain ⟨xs,e,_⟩:=z;rw [n] at e;cases e
    | rol ds =>
      obtain ⟨xs,e,_⟩:=z
      rcases e with (e | ⟨o,e⟩) | ⟨o,_,_,e,_⟩
      · rw [n] at e;cases e
      · rw [n] at e;cases e
      · rw [kn] at e;cases e
    | tV tt kvs =>
      rcases z with ⟨_,xs,e,_⟩ | ⟨_,xs,e,_⟩
      · rw [n] at e;cases e
      · rw [n] at e;cases e
    | rdc ob tt kvs =>
      rcases z with ⟨_,xs,e,_⟩ | ⟨_,xs,e,_⟩
      · rw [n] at e;cases e
      · rw [n] at e;cases e
    | ins C fs=>obtain ⟨dx,vs,e,_⟩:=z;rw [n] at e;cases e
    | z9 C=>obtain ⟨o,vs,e,_⟩:=z;rw [n] at e;cases e
    | kst ks=>obtain ⟨_,_,_,e,_⟩:=z;rw [n] at e;cases e
    | tab q p=>obtain ⟨_,e,_⟩:=z;rw [n] at e;cases e
    | clo c d=>obtain ⟨_,_,_,_,_,_,_,_,e,_⟩:=z;rw [n] at e;cases e
    | tpl ds =>
      obtain ⟨xs,e,_⟩:=z
      rcases e with (e | ⟨o,e⟩) | ⟨o,_,_,e,_⟩
      · rw [n] at e;cases e
      · rw [n] at e;cases e
      · rw [kn] at e;cases e
section
variable {X:Cx} {a b c:Expr} {ta tb tc:cB} {pos:Pos}
def aB (i:Nat):cB:=fun ρ G R=>match at3 ρ i with
  | some d=>R d G
  | none=>False
def aV (d:D):cB:=fun _ G R=>R d G
theorem amR {K:Fg} {i:Nat} {σ:St} {H:Hp} {Q:VK} (h:upE K (aB i) σ H Q):aq7 i σ H Q:=by
  obtain ⟨ρ,G,R,s,g,t,k⟩:=h
  unfold aB at t
  split at t
  · rename_i d e
    obtain ⟨v,h1,h2⟩:=s.get e
    exact ⟨v,h1,k v H d G (.refl H) h2 g t⟩
  · exact t.elim
theorem abG {K:Fg} {d:D} {v:V} (r:∀ H,RD K H d v) {σ:St} {H:Hp} {Q:VK} (h:upE K (aV d) σ H Q):tC v σ H Q:=by
  obtain ⟨ρ,G,R,s,g,t,k⟩:=h
  exact k v H d G (.refl H) (r H) g t
theorem akJ (i:Nat) {x:Str} {pos:Pos} (hN:X.N[i]?=some x:=by rfl) (hv:Vis X.env.scope x:=by first | exact Or.inl rfl | exact Or.inr (Or.inl rfl) | exact Or.inr (Or.inr rfl)) (hd:(x == ("__debug__" : Str))=false:=by decide)
    (hcd:(x == ("__classdict__" : Str))=false:=by decide):cI X (.Name x pos) (aB i):=PE.imp (acP hN hv hd hcd) fun _ _ _ h=>amR h
theorem arC {i j pos}:cI X (.Constant (.int i) j pos) (aV (.int i)):=PE.imp alO fun _ _ _ h=>abG (fun _ => .int i) h
theorem aw9 {b j pos}:cI X (.Constant (.bool b) j pos) (aV (.bl b)):=PE.imp aq8 fun _ _ _ h=>abG (fun _ => .bl b) h
theorem arD {j pos}:cI X (.Constant .none j pos) (aV .non):=PE.imp alP fun _ _ _ h=>abG (fun _ => .non) h
theorem arE {x j pos}:cI X (.Constant (.str x) j pos) (aV (.str x)):=PE.imp alQ fun _ _ _ h=>abG (fun _ => .str x) h
theorem adC {x:Str} {d:D} {v:V} {u:Value} {pos:Pos} (hg:Gl X x) (hm:X.mg x=some u) (r:RelV v u) (rd:∀ H,RD X.K H d v) (hd:(x == ("__debug__" : Str))=false:=by decide):cI X (.Name x pos) (aV d) :=
  PE.imp (agQ hg hm r hd) fun _ _ _ h=>abG rd h
theorem amS {x:Str} {n:String} {pos:Pos} (hg:Gl X x) (hm:X.mg x=none) (hv:bootBuiltins x=some (.type n)) (hn:x ≠ "__name__" := by decide) (hd:(x == ("__debug__" : Str))=false:=by decide):cI X (.Name x pos) (aV (.ty n)) :=
  PE.imp (agR hg hm hv (v := .ty n) rfl hn hd) fun _ _ _ h=>abG (fun _ => .ty n) h
abbrev R3:=D→D→Gp→dG→Prop
def OpI (K:Fg) (r:R2) (r3:R3):Prop:=∀ (H:Hp) (x y:D) (vx vy:V) (G:Gp) (R:dG) (Q:VK),RD K H x vx→RD K H y vy→HR K H G→r3 x y G R→(∀ v H' d G',Ts H H'→RD K H' d v→HR K H' G'→R d G'→Q v H')→r vx vy H fun v H'=>KF K H'→Q v H'
def zV (X:Cx) (f:Value→Value→Sem Value) (r3:R3):Prop:=∃ r,qR X f r∧OpI X.K r r3
def OpC (K:Fg) (r:R2) (r3:R3):Prop:=∀ (H:Hp) (x y:D) (vx vy:V) (G:Gp) (R:dG) (Q:VK),RD K H x vx→RD K H y vy→HR K H G→r3 x y G R→(∀ v H' d G',Ts H H'→RD K H' d v→HR K H' G'→R d G'→Q v H')→r vx vy H Q
def uO (X:Cx) (f:Value→Value→Sem Value) (r3:R3):Prop:=∃ r,qR X f r∧OpC X.K r r3
def aG (r:R3) (ta tb:cB):cB:=fun ρ G R=>ta ρ G fun x G1=>tb ρ G1 fun y G2=>r x y G2 R
theorem arF {K:Fg} {r:R2} {r3:R3} (o:OpI K r r3) {σ:St} {H:Hp} {Q:VK} (h:upE K (aG r3 ta tb) σ H Q):tOp r (upE K ta) (upE K tb) σ H fun v H'=>KF K H'→Q v H':=by
  obtain ⟨ρ,G,R,s,g,t,k⟩:=h
  refine ⟨ρ,G,_,s,g,t,fun vx H1 x G1 t1 rx g1 t'=>?_⟩
  refine ⟨ρ,G1,_,s.mono t1,g1,t',fun vy H2 y G2 t2 ry g2 t''=>?_⟩
  exact o H2 x y vx vy G2 R Q (rx.mono t2) ry g2 t'' fun v H' d G' t3=>k v H' d G' ((t1.trans t2).trans t3)
theorem a83 {K:Fg} {r:R2} {r3:R3} (o:OpC K r r3) {σ:St} {H:Hp} {Q:VK} (h:upE K (aG r3 ta tb) σ H Q):tOp r (upE K ta) (upE K tb) σ H Q:=by
  obtain ⟨ρ,G,R,s,g,t,k⟩:=h
  refine ⟨ρ,G,_,s,g,t,fun vx H1 x G1 t1 rx g1 t'=>?_⟩
  refine ⟨ρ,G1,_,s.mono t1,g1,t',fun vy H2 y G2 t2 ry g2 t''=>?_⟩
  exact o H2 x y vx vy G2 R Q (rx.mono t2) ry g2 t'' fun v H' d G' t3=>k v H' d G' ((t1.trans t2).trans t3)
theorem awA {op:Operator} {r3:R3} (o:zV X (binaryOp op) r3) (ha:cI X a ta) (hb:cI X b tb):cI X (.BinOp a op b pos) (aG r3 ta tb):=by
  obtain ⟨r,o1,o2⟩:=o
  exact PE.imp (PE.kf (aqL o1 ha hb)) fun _ _ _ h=>arF o2 h
theorem arG {op:CmpOp} {r3:R3} (o:uO X (compareOp op) r3) (ha:cI X a ta) (hb:cI X b tb) (hm:behindInMarks op b=false):cI X (.Compare a [op] [b] pos) (aG r3 ta tb):=by
  obtain ⟨r,o1,o2⟩:=o
  exact PE.imp (ah0 o1 ha hb hm) fun _ _ _ h=>a83 o2 h
def aZ (t:cB):uM:=fun ρ G R=>t ρ G fun x G1=>match x with
  | .bl k=>R k G1
  | _=>False
theorem a9G {K:Fg} {t:TE} {t3:cB} (f:∀ σ H Q,upE K t3 σ H Q→t σ H Q) {σ:St} {H:Hp} {Q:Bool→Hp→Prop} (h:upT K (aZ t3) σ H Q):akD t σ H Q:=by
  obtain ⟨ρ,G,R,s,g,u,k⟩:=h
  refine f _ _ _ ⟨ρ,G,_,s,g,u,fun v H' d G' t1 r g1 q=>?_⟩
  cases r with
  | bl b=>exact ⟨b,rfl,k b H' G' t1 g1 q⟩
  | _=>exact q.elim
theorem arH {op:CmpOp} {r3:R3} (o:uO X (compareOp op) r3) (ha:cI X a ta) (hb:cI X b tb) (hm:behindInMarks op b=false):PT3 X (.Compare a [op] [b] pos) (aZ (aG r3 ta tb)):=by
  obtain ⟨r,o1,o2⟩:=o
  exact PT.imp (ah1 o1 ha hb hm) fun _ _ _ h=>a9G (fun _ _ _=>a83 o2) h
theorem arI {e:Expr} {t:cB} (h:cI X e t) (he:∀ whole,isTrue e X.env whole=(do let v ← whole;standAt e.pos;holding [v] (truthy v)):=by intro _;rfl):PT3 X e (aZ t) :=
  PT.imp (alR h he) fun _ _ _ h=>a9G (fun _ _ _ q=>q) h
def auT (r r':R3) (ta tb tc:cB):cB:=fun ρ G R=>ta ρ G fun x G1=>tb ρ G1 fun y G2=>r x y G2 fun z G3=>match z with
  | .bl true=>tc ρ G3 fun w G4=>r' y w G4 R
  | .bl false=>R (.bl false) G3
  | _=>False
variable {sa sb:uM} {rest:List Expr}
def a2Q (t u:uM):uM:=fun ρ G R=>t ρ G fun c G1=>if c=true then u ρ G1 R else R false G1
def a1U (t u:uM):uM:=fun ρ G R=>t ρ G fun c G1=>if c=true then R true G1 else u ρ G1 R
def yC (t:uM):uM:=fun ρ G R=>t ρ G fun c G1=>R (!c) G1
theorem amT {K:Fg} {σ:St} {H:Hp} {Q:Bool→Hp→Prop} (h:upT K (a2Q sa sb) σ H Q):aq9 (upT K sa) (upT K sb) σ H Q:=by
  obtain ⟨ρ,G,R,s,g,t,k⟩:=h
  refine ⟨ρ,G,_,s,g,t,fun c H1 G1 t1 g1 q=>?_⟩
  cases c with
  | true=>exact ⟨ρ,G1,R,s.mono t1,g1,q,fun b H' G' t2=>k b H' G' (t1.trans t2)⟩
  | false=>exact k false H1 G1 t1 g1 q
theorem arJ {K:Fg} {σ:St} {H:Hp} {Q:Bool→Hp→Prop} (h:upT K (a1U sa sb) σ H Q):tOr (upT K sa) (upT K sb) σ H Q:=by
  obtain ⟨ρ,G,R,s,g,t,k⟩:=h
  refine ⟨ρ,G,_,s,g,t,fun c H1 G1 t1 g1 q=>?_⟩
  cases c with
  | false=>exact ⟨ρ,G1,R,s.mono t1,g1,q,fun b H' G' t2=>k b H' G' (t1.trans t2)⟩
  | true=>exact k true H1 G1 t1 g1 q
theorem amU (ha:PT3 X a sa):PW3 X (.BoolOp .And [a] pos) sa:=agS ha
theorem arK (ha:PT3 X a sa):PW3 X (.BoolOp .Or [a] pos) sa:=alS ha
theorem arL (ha:PT3 X a sa) (hb:PW3 X (.BoolOp .And (b :: rest) pos) sb):PW3 X (.BoolOp .And (a :: b :: rest) pos) (a2Q sa sb):=PW.imp (alT ha hb) fun _ _ _ h=>amT h
theorem awB (ha:PT3 X a sa) (hb:PW3 X (.BoolOp .Or (b :: rest) pos) sb):PW3 X (.BoolOp .Or (a :: b :: rest) pos) (a1U sa sb):=PW.imp (aqB ha hb) fun _ _ _ h=>arJ h
theorem arM (ha:PT3 X a sa):PT3 X (.UnaryOp .Not a pos) (yC sa):=PT.imp (alU ha) fun σ H Q h=>by
  obtain ⟨ρ,G,R,s,g,t,k⟩:=h
  exact ⟨ρ,G,_,s,g,t,fun c H1 G1 t1 g1 q=>k (!c) H1 G1 t1 g1 q⟩
def uP (ta tb:cB):cB:=fun ρ G R=>ta ρ G fun x G1=>match x with
  | .bl true=>tb ρ G1 R
  | .bl false=>R (.bl false) G1
  | _=>False
def akK (ta tb:cB):cB:=fun ρ G R=>ta ρ G fun x G1=>match x with
  | .bl true=>R (.bl true) G1
  | .bl false=>tb ρ G1 R
  | _=>False
def a4H (ta:cB):cB:=fun ρ G R=>ta ρ G fun x G1=>match x with
  | .bl c=>R (.bl (!c)) G1
  | _=>False
theorem akL {op} (h:cI X a ta):cI X (.BoolOp op [a] pos) ta:=alV h
theorem arN (ha:cI X a ta) (hb:cI X (.BoolOp .And (b :: rest) pos) tb):cI X (.BoolOp .And (a :: b :: rest) pos) (uP ta tb):=PE.imp (alW ha hb) fun σ H Q h=>by
  obtain ⟨ρ,G,R,s,g,t,k⟩:=h
  refine ⟨ρ,G,_,s,g,t,fun v H1 x G1 t1 r g1 q=>?_⟩
  cases r with
  | bl c =>
    refine ⟨c,rfl,?_⟩
    cases c with
    | true=>exact ⟨ρ,G1,R,s.mono t1,g1,q,fun b H' d G' t2=>k b H' d G' (t1.trans t2)⟩
    | false=>exact k _ H1 _ G1 t1 (.bl false) g1 q
  | _=>exact q.elim
theorem awC (ha:cI X a ta) (hb:cI X (.BoolOp .Or (b :: rest) pos) tb):cI X (.BoolOp .Or (a :: b :: rest) pos) (akK ta tb):=PE.imp (aqE ha hb) fun σ H Q h=>by
  obtain ⟨ρ,G,R,s,g,t,k⟩:=h
  refine ⟨ρ,G,_,s,g,t,fun v H1 x G1 t1 r g1 q=>?_⟩
  cases r with
  | bl c =>
    refine ⟨c,rfl,?_⟩
    cases c with
    | false=>exact ⟨ρ,G1,R,s.mono t1,g1,q,fun b H' d G' t2=>k b H' d G' (t1.trans t2)⟩
    | true=>exact k _ H1 _ G1 t1 (.bl true) g1 q
  | _=>exact q.elim
theorem arO (ha:cI X a ta):cI X (.UnaryOp .Not a pos) (a4H ta):=PE.imp (alX ha) fun σ H Q h=>by
  obtain ⟨ρ,G,R,s,g,t,k⟩:=h
  refine ⟨ρ,G,_,s,g,t,fun v H1 x G1 t1 r g1 q=>?_⟩
  cases r with
  | bl c=>exact ⟨c,rfl,k _ H1 _ G1 t1 (.bl _) g1 q⟩
  | _=>exact q.elim
def abH (t:uM) (ta tb:cB):cB:=fun ρ G R=>t ρ G fun c G1=>if c=true then ta ρ G1 R else tb ρ G1 R
theorem ahO {c:Expr} (hc:PT3 X c sa) (ha:cI X a ta) (hb:cI X b tb):cI X (.IfExp c a b pos) (abH sa ta tb):=PE.imp (acR hc ha hb) fun σ H Q h=>by
  obtain ⟨ρ,G,R,s,g,t,k⟩:=h
  refine ⟨ρ,G,_,s,g,t,fun c H1 G1 t1 g1 q=>?_⟩
  cases c with
  | true=>exact ⟨ρ,G1,R,s.mono t1,g1,q,fun b H' d G' t2=>k b H' d G' (t1.trans t2)⟩
  | false=>exact ⟨ρ,G1,R,s.mono t1,g1,q,fun b H' d G' t2=>k b H' d G' (t1.trans t2)⟩
end
section
variable {X:Cx} {e:Expr} {es:List Expr} {te:cB} {t:n6} {pos:Pos}
def aC:n6:=fun _ G R=>R [] G
def aA (ta:cB) (tr:n6):n6:=fun ρ G R=>ta ρ G fun x G1=>tr ρ G1 fun xs G2=>R (x :: xs) G2
theorem a9H:PA3 X [] aC:=PA.imp amB fun σ H Q h=>by
  obtain ⟨ρ,G,R,s,g,t,k⟩:=h
  exact k [] H [] G (.refl H) .nil g t
theorem uQ (ha:cI X e te) (hr:PA3 X es t) (hs:starEach (e :: es) X.env=(false,eval e X.env) :: starEach es X.env:=by rfl):PA3 X (e :: es) (aA te t):=PA.imp (ah2 ha hr hs) fun σ H Q h=>by
  obtain ⟨ρ,G,R,s,g,t,k⟩:=h
  refine ⟨ρ,G,_,s,g,t,fun v H1 x G1 t1 r g1 q=>?_⟩
  refine ⟨ρ,G1,_,s.mono t1,g1,q,fun vs H2 xs G2 t2 rs g2 q'=>?_⟩
  exact k (v :: vs) H2 (x :: xs) G2 (t1.trans t2) (.cons (r.mono t2) rs) g2 q'
def yD (t:n6):cB:=fun ρ G R=>t ρ G fun xs G1=>xs.length≤sizeLine∧R (.tup xs) G1
def fH (t:n6):cB:=fun ρ G R=>t ρ G fun xs G1=>xs.length≤sizeLine∧∀ p,G1 p=none→R (.ref p) (aL G1 p (.lst xs))
theorem arP {x1} (h:PA3 X es t):cI X (.Tuple es x1 pos) (yD t):=PE.imp (amC h) fun σ H Q h=>by
  obtain ⟨ρ,G,R,s,g,t,k⟩:=h
  refine ⟨ρ,G,_,s,g,t,fun vs H1 xs G1 t1 r g1 q=>?_⟩
  refine ⟨by rw [← r.length];exact q.1,fun p hp=>?_⟩
  have sn:Same H1 (upd H1 p (.tup vs)):=bB hp
  exact k (.ref p) _ (.tup xs) G1 (t1.trans (.same sn)) (.tup (rD.of aJ) (r.mono (.same sn)) (ahL aJ)) (g1.same sn) q.2
theorem arQ (h:PA3 X es t):cI X (.List es pos) (fH t):=PE.imp (PE.kf (amD h)) fun σ H Q h=>by
  obtain ⟨ρ,G,R,s,g,t,k⟩:=h
  refine ⟨ρ,G,_,s,g,t,fun vs H1 xs G1 t1 r g1 q=>?_⟩
  refine ⟨by rw [← r.length];exact q.1,fun p hp kf=>?_⟩
  have sn:Same H1 (upd H1 p (.lst vs)):=bB hp
  exact k (.ref p) _ (.ref p) _ (t1.trans (.same sn)) (.ref p) (g1.put (u := .lst xs) hp ⟨vs,aJ,r.mono (.same sn)⟩) (q.2 p (lQ g1 hp kf))
end
end L2
namespace L2
open PySem PySem.Spec PyProof.Rows
section
variable {X:Cx} {a b c:Expr} {ta tb tc:cB} {pos:Pos}
def rI3 (C:Int→Int→Prop) (g:Int→Int→Int):R3:=fun x y G R=>match x,y with
  | .int i,.int j=>C i j∧R (.int (g i j)) G
  | _,_=>False
def arS (g:Int→Int→Int):R3:=fun x y G R=>match x,y with
  | .int i,.int j=>R (.int (g i j)) G
  | _,_=>False
def ahP (g:Int→Int→Bool):R3:=fun x y G R=>match x,y with
  | .int i,.int j=>R (.bl (g i j)) G
  | _,_=>False
theorem a9I {f:Value→Value→Sem Value} {C:Int→Int→Prop} {g:Int→Int→Int} (h:qR X f (rI C fun i j => .int (g i j))):zV X f (rI3 C g):=by
  refine ⟨_,h,fun H x y vx vy G R Q rx ry gh h k=>?_⟩
  cases rx with
  | int i =>
    cases ry with
    | int j=>exact ⟨i,j,rfl,rfl,h.1,fun _=>k _ H _ G (.refl H) (.int _) gh h.2⟩
    | _=>exact False.elim h
  | _=>exact False.elim h
theorem amV {f:Value→Value→Sem Value} {g:Int→Int→Int} (h:qR X f (rI0 fun i j => .int (g i j))):zV X f (arS g):=by
  refine ⟨_,h,fun H x y vx vy G R Q rx ry gh h k=>?_⟩
  cases rx with
  | int i =>
    cases ry with
    | int j=>exact ⟨i,j,rfl,rfl,fun _=>k _ H _ G (.refl H) (.int _) gh h⟩
    | _=>exact False.elim h
  | _=>exact False.elim h
theorem a84 {f:Value→Value→Sem Value} {g:Int→Int→Bool} (h:qR X f (rI0 fun i j => .bl (g i j))):uO X f (ahP g):=by
  refine ⟨_,h,fun H x y vx vy G R Q rx ry gh h k=>?_⟩
  cases rx with
  | int i =>
    cases ry with
    | int j=>exact ⟨i,j,rfl,rfl,k _ H _ G (.refl H) (.bl _) gh h⟩
    | _=>exact False.elim h
  | _=>exact False.elim h
def a2R:R3:=arS fun i j=>i - j
def vN:R3:=rI3 acX fun i j=>i * j
def iH:R3:=rI3 am3 fun i j=>i / j
def dB:R3:=rI3 (fun _ j=>0 < j) fun i j=>i % j
def akM:R3:=rI3 aqO fun i j=>i ^ j.toNat
theorem arT:zV X (binaryOp .Sub) a2R:=amV am5
theorem arU:zV X (binaryOp .Mult) vN:=a9I am6
theorem amW:zV X (binaryOp .FloorDiv) iH:=a9I agY
theorem arV:zV X (binaryOp .Mod) dB:=a9I am7
theorem arW:zV X (binaryOp .Pow) akM:=a9I am8
def ahQ:R3:=ahP fun i j=>decide (i < j)
def adD:R3:=ahP fun i j=>decide (j < i)
def arX:R3:=ahP fun i j=>decide (j≤i)
theorem awD:uO X (compareOp .Lt) ahQ:=a84 aqP
theorem awE:uO X (compareOp .Gt) adD:=a84 aqR
theorem awF:uO X (compareOp .GtE) arX:=a84 aqS
def arY:R3:=fun x y G R=>match x,y with
  | .int i,.int j=>R (.bl (decide (i≤j))) G
  | .str i,.str j=>R (.bl (!decide (j.cps.toList < i.cps.toList))) G
  | _,_=>False
theorem abI:qR X (compareOp .LtE) (fun x y H Q=>∃ i j,x = .str i∧y = .str j∧Q (.bl (!decide (j.cps.toList < i.cps.toList))) H):=by
  intro pins s σ H x y v u Q I rx ry h
  obtain ⟨i,j,rfl,rfl,q⟩:=h
  obtain ⟨t,rfl⟩:=rx
  obtain ⟨t',rfl⟩:=ry
  exact PySem.P.le_str ⟨.bl _,H,I,rfl,q⟩
theorem awG:uO X (compareOp .LtE) arY:=by
  refine ⟨_,aqQ.or abI,fun H x y vx vy G R Q rx ry gh h k=>?_⟩
  cases rx with
  | int i =>
    cases ry with
    | int j=>exact .inl ⟨i,j,rfl,rfl,k _ H _ G (.refl H) (.bl _) gh h⟩
    | _=>exact False.elim h
  | str i =>
    cases ry with
    | str j=>exact .inr ⟨i,j,rfl,rfl,k _ H _ G (.refl H) (.bl _) gh h⟩
    | _=>exact False.elim h
  | _=>exact False.elim h
def bC:R3:=fun x y G R=>match x,y with
  | .int i,.int j=>R (.int (i+j)) G
  | .str i,.str j=>i.length+j.length≤sizeLine∧R (.str (i++j)) G
  | .tup xs,.tup ys=>xs.length+ys.length≤sizeLine∧R (.tup (xs++ys)) G
  | .ref l,.ref m=>match G l,G m with
    | some (.lst xs),some (.lst ys)=>xs.length+ys.length≤sizeLine∧∀ p,G p=none→R (.ref p) (aL G p (.lst (xs++ys)))
    | _,_=>False
  | _,_=>False
theorem adE:qR X (binaryOp .Add) (fun x y H Q=>∃ a b ys,x = .ref a∧y = .ref b∧rD X.K H a []∧rD X.K H b ys∧Q (.ref b) H):=by
  intro pins s σ H x y v u Q I rx ry h
  obtain ⟨a,b,ys,rfl,rfl,ha,hb,q⟩:=h
  cases rx
  cases ry
  obtain ⟨its,r1,p1,_⟩:=I.tuple ha
  obtain ⟨its2,r2,p2,_⟩:=I.tuple hb
  cases r1
  obtain ⟨⟨cls,dd,data,sl⟩,ho,hc,n,hd⟩:=id p1
  obtain ⟨⟨cls2,dd2,data2,sl2⟩,ho2,hc2,n2,hd2⟩:=id p2
  simp only at hc hd hc2 hd2
  subst hc hd hc2 hd2
  exact concat_meets ⟨_,ho,rfl⟩ ⟨_,ho2,rfl⟩ noFill_tuple_add seq_tuple_add PySem.F.slot_tuple_add PySem.F.entry_tuple_add (PySem.F.args_tuple_add_2 _ _)
      (tuple_addW0 a b #[] its2.toArray n n2 dd dd2 sl sl2 (by simp)) ⟨ho,ho2,⟨.ref b,H,I,rfl,q⟩⟩
theorem arZ:zV X (binaryOp .Add) bC:=by
  refine ⟨_,am4.or (a7W.or (ahA.or (adE.or amQ))),fun H x y vx vy G R Q rx ry gh h k=>?_⟩
  cases rx with
  | int i =>
    cases ry with
    | int j=>exact .inl ⟨i,j,rfl,rfl,fun _=>k _ H _ G (.refl H) (.int _) gh h⟩
    | _=>exact False.elim h
  | str i =>
    cases ry with
    | str j=>exact .inr (.inl ⟨i,j,rfl,rfl,h.1,fun _=>k _ H _ G (.refl H) (.str _) gh h.2⟩)
    | _=>exact False.elim h
  | @tup a xs ds ha ra ea =>
    cases ry with
    | @tup b ys es hb rb eb =>
      by_cases hn:ds=[]
      · subst hn
        cases ra
        exact .inr (.inr (.inr (.inl ⟨a,b,ys,rfl,rfl,ha,hb,fun _=>k _ H _ G (.refl H) (.tup hb rb eb) gh h.2⟩)))
      · refine .inr (.inr (.inl ⟨a,b,xs,ys,rfl,rfl,ha,hb,fun z=>hn (ra.vH.mp z),by rw [← ra.length,← rb.length];exact h.1,fun z _=>?_,fun _ p hp _=>?_⟩))
        · subst z
          cases rb
          have h2:=h.2
          rw [List.append_nil] at h2
          exact k _ H _ G (.refl H) (.tup ha ra ea) gh h2
        · have sn:Same H (upd H p (.tup (xs++ys))):=bB hp
          exact k _ _ _ G (.same sn) (.tup (rD.of aJ) ((ra.append rb).mono (.same sn)) (ahL aJ)) (gh.same sn) h.2
    | _=>exact False.elim h
  | ref l =>
    cases ry with
    | ref m =>
      have h':(match G l,G m with
        | some (.lst xs),some (.lst ys)=>xs.length+ys.length≤sizeLine∧∀ p,G p=none→R (.ref p) (aL G p (.lst (xs++ys)))
        | _,_=>False):=h
      split at h'
      · rename_i xs ys e1 e2
        obtain ⟨xv,f1,r1⟩:=gh l _ e1
        obtain ⟨yv,f2,r2⟩:=gh m _ e2
        refine .inr (.inr (.inr (.inr ⟨l,m,xv,yv,rfl,rfl,f1,f2,by rw [← r1.length,← r2.length];exact h'.1,fun p hp kf=>?_⟩)))
        have sn:Same H (upd H p (.lst (xv++yv))):=bB hp
        exact k _ _ _ _ (.same sn) (.ref p) (gh.put (u := .lst (xs++ys)) hp ⟨_,aJ,(r1.append r2).mono (.same sn)⟩) (h'.2 p (lQ gh hp kf))
      · exact h'.elim
    | _=>exact False.elim h
  | _=>exact False.elim h
def amX:R3:=fun x y G R=>match x,y with
  | .non,.non=>R (.bl true) G
  | _,.non=>R (.bl false) G
  | .bl i,.bl j=>R (.bl (i == j)) G
  | .int _,.bl _=>R (.bl false) G
  | .str _,.bl _=>R (.bl false) G
  | .non,.bl _=>R (.bl false) G
  | .tup _,.bl _=>R (.bl false) G
  | .ref _,.bl _=>R (.bl false) G
  | _,_=>False
def adF:R3:=fun x y G R=>amX x y G fun d G'=>match d with
  | .bl k=>R (.bl (!k)) G'
  | _=>False
theorem isV (x:V) (v:Value) (k:Bool) (r:RelV x v):(v == .bool k)=decide (x = .bl k):=by
  cases x with
  | non=>cases r;rfl
  | bl b =>
    cases r
    cases b <;> cases k <;> rfl
  | int _=>obtain ⟨t,rfl⟩:=r;rfl
  | str _=>obtain ⟨t,rfl⟩:=r;rfl
  | byt _=>obtain ⟨t,rfl⟩:=r;rfl
  | flt _=>obtain ⟨t,rfl⟩:=r;rfl
  | ref _=>cases r;rfl
  | ty _=>cases r;rfl
theorem a2S (x:V) (v:Value) (k:Bool) (r:RelV x v):plainIs v (.bool k)=true:=by
  cases x with
  | non=>cases r;rfl
  | bl b=>cases r;rfl
  | int _=>obtain ⟨t,rfl⟩:=r;rfl
  | str _=>obtain ⟨t,rfl⟩:=r;rfl
  | byt _=>obtain ⟨t,rfl⟩:=r;rfl
  | flt _=>obtain ⟨t,rfl⟩:=r;rfl
  | ref _=>cases r;rfl
  | ty _=>cases r;rfl
theorem ahR:qR X (compareOp .Is) (fun x y H Q=>∃ k,y = .bl k∧Q (.bl (decide (x = .bl k))) H):=by
  intro pins s σ H x y v u Q I rx ry h
  obtain ⟨k,rfl,q⟩:=h
  cases ry
  exact wpAny_is_plain (a2S x v k rx) ⟨.bl _,H,I,by rw [isV x v k rx];rfl,q⟩
theorem abJ:qR X (compareOp .IsNot) (fun x y H Q=>∃ k,y = .bl k∧Q (.bl (!decide (x = .bl k))) H):=by
  intro pins s σ H x y v u Q I rx ry h
  obtain ⟨k,rfl,q⟩:=h
  cases ry
  exact wpAny_isNot_plain (a2S x v k rx) ⟨.bl _,H,I,by rw [isV x v k rx];rfl,q⟩
theorem awH:uO X (compareOp .Is) amX:=by
  refine ⟨_,amA.or ahR,fun H x y vx vy G R Q rx ry gh h k=>?_⟩
  cases ry with
  | non =>
    refine .inl ⟨rfl,?_⟩
    cases rx with
    | non=>exact k _ H _ G (.refl H) (.bl _) gh h
    | _=>exact k _ H _ G (.refl H) (.bl _) gh h
  | bl j =>
    refine .inr ⟨j,rfl,?_⟩
    cases rx with
    | bl i =>
      have e:decide (V.bl i=V.bl j)=(i == j):=by cases i <;> cases j <;> rfl
      rw [e]
      exact k _ H _ G (.refl H) (.bl _) gh h
    | ty n=>exact False.elim h
    | _=>exact k _ H _ G (.refl H) (.bl _) gh h
  | _=>cases rx <;> exact False.elim h
theorem amY:uO X (compareOp .IsNot) adF:=by
  refine ⟨_,agZ.or abJ,fun H x y vx vy G R Q rx ry gh h k=>?_⟩
  cases ry with
  | non =>
    refine .inl ⟨rfl,?_⟩
    cases rx with
    | non=>exact k _ H _ G (.refl H) (.bl _) gh h
    | _=>exact k _ H _ G (.refl H) (.bl _) gh h
  | bl j =>
    refine .inr ⟨j,rfl,?_⟩
    cases rx with
    | bl i =>
      have e:decide (V.bl i=V.bl j)=(i == j):=by cases i <;> cases j <;> rfl
      rw [e]
      exact k _ H _ G (.refl H) (.bl _) gh h
    | ty n=>exact False.elim h
    | _=>exact k _ H _ G (.refl H) (.bl _) gh h
  | _=>cases rx <;> exact False.elim h
def bH (G:Gp) (a:Addr):Option (List D):=match G a with
  | some (.lst ds)=>some ds
  | some (.rol ds)=>some ds
  | _=>none
theorem cA {K:Fg} {H:Hp} {G:Gp} (g:HR K H G) {a:Addr} {ds:List D} (e:bH G a=some ds):∃ xs,tX K H a xs∧bM K H ds xs:=by
  unfold bH at e
  split at e
  · rename_i ds' q
    cases e
    obtain ⟨xs,h1,h2⟩:=g a _ q
    exact ⟨xs,tX.of h1,h2⟩
  · rename_i ds' q
    cases e
    exact g a _ q
  · cases e
def bR:R3:=fun x y G R=>match x,y with
  | .tup xs,.int i=>match uL xs i with
    | some d=>R d G
    | none=>False
  | .str z,.int i=>z.length≤sizeLine∧match uL z.cps.toList i with
    | some c=>R (.str ⟨#[c]⟩) G
    | none=>False
  | .ref p,.int i=>match bH G p with
    | some xs=>(match uL xs i with
      | some d=>R d G
      | none=>False)
    | none=>False
  | _,_=>False
theorem adG {K:Fg} {H:Hp} {ds:List D} {xs:List V} (r:bM K H ds xs) {i:Int} {d:D} (e:uL ds i=some d):∃ v,uL xs i=some v∧RD K H d v:=by
  unfold uL at e ⊢
  rw [← r.length]
  cases q:ixN ds.length i with
  | none=>rw [q] at e;cases e
  | some j =>
    rw [q] at e
    exact r.get e
theorem awI (ha:cI X a ta) (hb:cI X b tb) (hs:a3Z b):cI X (.Subscript a b pos) (aG bR ta tb):=by
  refine PE.imp (ar0 amP ha hb hs) fun _ _ _ h=>a83 ?_ h
  intro H x y vx vy G R Q rx ry gh h k
  cases rx with
  | @tup p xs ds hp r =>
    cases ry with
    | int i =>
      have h':(match uL ds i with
        | some d=>R d G
        | none=>False):=h
      split at h'
      · rename_i d e
        obtain ⟨v,e1,e2⟩:=adG r e
        exact .inr (.inl ⟨p,xs,i,v,rfl,rfl,hp,e1,k v H d G (.refl H) e2 gh h'⟩)
      · exact h'.elim
    | _=>exact False.elim h
  | str z =>
    cases ry with
    | int i =>
      have h':z.length≤sizeLine∧(match uL z.cps.toList i with
        | some c=>R (.str ⟨#[c]⟩) G
        | none=>False):=h
      obtain ⟨hz,h'⟩:=h'
      split at h'
      · rename_i d e
        exact .inr (.inr ⟨z,i,d,rfl,rfl,hz,e,k _ H _ G (.refl H) (.str _) gh h'⟩)
      · exact h'.elim
    | _=>exact False.elim h
  | ref p =>
    cases ry with
    | int i =>
      have h':(match bH G p with
        | some xs=>(match uL xs i with
          | some d=>R d G
          | none=>False)
        | none=>False):=h
      split at h'
      · rename_i ds e
        obtain ⟨xs,hp,r⟩:=cA gh e
        split at h'
        · rename_i d e'
          obtain ⟨v,e1,e2⟩:=adG r e'
          exact .inl ⟨p,xs,i,v,rfl,rfl,hp,e1,k v H d G (.refl H) e2 gh h'⟩
        · exact h'.elim
      · exact h'.elim
    | _=>exact False.elim h
  | _=>exact False.elim h
abbrev TO3:=aN→Gp→(Option Int→Gp→Prop)→Prop
def upO (K:Fg) (t:TO3):TO:=fun σ H Q=>∃ ρ G R,SR K H ρ σ∧HR K H G∧t ρ G R∧∀ i H' G',Ts H H'→HR K H' G'→R i G'→Q i H'
abbrev PO3 (X:Cx) (e:Option Expr) (t:TO3):Prop:=PO X e (upO X.K t)
theorem PO.imp {e:Option Expr} {t t':TO} (h:PO X e t) (k:∀ σ H Q,t' σ H Q→t σ H Q):PO X e t':=fun pins s σ H Q I q=>h pins s σ H Q I (k _ _ _ q)
def bZ:TO3:=fun _ G R=>R none G
def eV (t:cB):TO3:=fun ρ G R=>t ρ G fun x G1=>match x with
  | .int i=>R (some i) G1
  | _=>False
theorem amZ:PO3 X none bZ:=PO.imp ah8 fun σ H Q h=>by
  obtain ⟨ρ,G,R,s,g,t,k⟩:=h
  exact k none H G (.refl H) g t
theorem an0 {e:Expr} {te:cB} (h:cI X e te):PO3 X (some e) (eV te):=PO.imp (ah9 h) fun σ H Q h=>by
  obtain ⟨ρ,G,R,s,g,t,k⟩:=h
  refine ⟨ρ,G,_,s,g,t,fun v H1 x G1 t1 r g1 q=>?_⟩
  cases r with
  | int i=>exact ⟨i,rfl,k _ H1 G1 t1 g1 q⟩
  | _=>exact False.elim q
def cutD {α:Type} (xs:List α) (lo hi:Option Int):List α:=(xs.drop (HT.iC xs.length 0 lo)).take (HT.iC xs.length xs.length hi - HT.iC xs.length 0 lo)
end
end L2
namespace L2
open PySem PySem.Spec PyProof.Rows
section
variable {X:Cx} {st:Stmt} {rest:List Stmt} {t u:bK} {e:Expr} {te:cB} {pos:Pos}
def bQ:bK:=fun F ρ G=>F.nx ρ G
def aO (t u:bK):bK:=fun F ρ G=>t { F with nx:=u F } ρ G
theorem as4:uN X [] bQ:=z8.imp agT fun F σ H h=>by
  obtain ⟨ρ,G,E,s,g,q,d⟩:=h
  exact d.nx ρ G σ H s g q
theorem an1 {K:Fg} {F:Ends} {σ:St} {H:Hp} (h:upS K (aO t u) F σ H):alY (upS K t) (upS K u) F σ H:=by
  obtain ⟨ρ,G,E,s,g,q,d⟩:=h
  exact ⟨ρ,G,_,s,g,q,⟨fun ρ' G' σ' H' s1 g1 h=>⟨ρ',G',E,s1,g1,h,d⟩,d.rt,d.bk,d.ct⟩⟩
theorem an2 (h1:PS3 X st t) (h2:uN X rest u):uN X (st :: rest) (aO t u):=z8.imp (acT h1 h2) fun _ _ _ h=>an1 h
theorem as5 (h1:PS3 X st t):uN X [st] t:=a97 h1
theorem an3:PS3 X (.Pass pos) bQ:=PS.imp agU fun F σ H h=>by
  obtain ⟨ρ,G,E,s,g,q,d⟩:=h
  exact d.nx ρ G σ H s g q
def uR (te:cB):bK:=fun F ρ G=>te ρ G fun _ G1=>F.nx ρ G1
theorem an4 (he:cI X e te) (hs:swapsWith e none pos.line X.env=pure false:=by rfl):PS3 X (.Expr e pos) (uR te):=PS.imp (agV he hs) fun F σ H h=>by
  obtain ⟨ρ,G,E,s,g,q,d⟩:=h
  exact ⟨ρ,G,_,s,g,q,fun v H' x G' t1 r g1 h=>d.nx ρ G' σ H' (s.mono t1) g1 h⟩
def bU (te:cB):bK:=fun F ρ G=>te ρ G F.rt
theorem as6 (he:cI X e te):PS3 X (.Return (some e) pos) (bU te):=PS.imp (alZ he) fun F σ H h=>by
  obtain ⟨ρ,G,E,s,g,q,d⟩:=h
  exact ⟨ρ,G,_,s,g,q,fun v H' x G' t1 r g1 h=>d.rt x G' v H' r g1 h⟩
def dH (c:uM) (t u:bK):bK:=fun F ρ G=>c ρ G fun b G1=>if b=true then t F ρ G1 else u F ρ G1
theorem awJ {c:Expr} {a b:List Stmt} {tc:uM} (hc:PT3 X c tc) (ha:uN X a t) (hb:uN X b u):PS3 X (.If c a b pos) (dH tc t u):=PS.imp (aqG hc ha hb) fun F σ H h=>by
  obtain ⟨ρ,G,E,s,g,q,d⟩:=h
  refine ⟨ρ,G,_,s,g,q,fun b H' G' t1 g1 h=>?_⟩
  cases b with
  | true=>exact ⟨ρ,G',E,s.mono t1,g1,h,d⟩
  | false=>exact ⟨ρ,G',E,s.mono t1,g1,h,d⟩
def bJ (i:Nat) (te:cB):bK:=fun F ρ G=>te ρ G fun x G1=>F.nx (tW ρ i x) G1
theorem akO {i:Nat} {x:Str} {pos':Pos} (hN:X.N.Nodup) (hi:X.N[i]?=some x) (hx:Loc X.env.scope x) (he:cI X e te) (hs:swapsWith e (some (.Name x pos')) pos.line X.env=pure false:=by rfl) (hf:X.fn x=true∨X.env.scope.names.lookup x=some .local:=by first | exact .inl rfl | exact .inr rfl | assumption) :
    PS3 X (.Assign [.Name x pos'] e pos) (bJ i te):=PS.imp (am0 hN hi hx he hs hf) fun F σ H h=>by
  obtain ⟨ρ,G,E,s,g,q,d⟩:=h
  exact ⟨ρ,G,_,s,g,q,fun v H' x G' t1 r g1 h=>d.nx _ G' _ H' ((s.mono t1).set r i) g1 h⟩
end
section
variable {X:Cx} {body:List Stmt} {tb:bK} {e:Expr} {te:cB} {pos:Pos}
theorem adH {K:Fg} {J:It} {g:TG} {tb:TS} {F:Ends} {σ:St} {H:Hp} {n:Nat} (Pv:Nat→St→Hp→Prop) (h0:Pv 0 σ H)
    (stop:∀ σ H,Pv n σ H→J.stop n H) (go:∀ i σ H,i < n→Pv i σ H→J.go i H)
    (hs:∀ i x σ H H',i < n→Pv i σ H→J.yld i H x H'→g x σ H' fun σ2 H2=>tb { F with nx:=Pv (i+1),ct:=Pv (i+1),bk:=F.nx } σ2 H2) (hd:∀ σ H,Pv n σ H→F.nx σ H) :
    ∃ W:Nat→Nat→St→Hp→Prop,(∃ m,W 0 m σ H)∧∀ i m σ H,W i m σ H →
      (J.stop i H∧F.nx σ H)∨(J.go i H∧∃ N:St→Hp→Prop,(∀ σ' H',N σ' H'→∃ m',m' < m∧W (i+1) m' σ' H')∧∀ x H',J.yld i H x H'→g x σ H' fun σ2 H2=>tb { F with nx:=N,ct:=N,bk:=F.nx } σ2 H2):=by
  refine ⟨fun i m σ H=>m=n - i∧i≤n∧Pv i σ H,⟨n,by simp,Nat.zero_le _,h0⟩,?_⟩
  rintro i m σ H ⟨rfl,hi,p⟩
  by_cases hlt:i < n
  · exact .inr ⟨go i σ H hlt p,Pv (i+1),fun σ' H' p'=>⟨n - (i+1),by omega,rfl,hlt,p'⟩,fun x H' y=>hs i x σ H H' hlt p y⟩
  · have e:i=n:=by omega
    subst e
    exact .inl ⟨stop σ H p,hd σ H p⟩
end
abbrev aX:=Addr→Gp→Prop
abbrev rA:=List D→Gp→dG→aX→Prop
def UpX (K:Fg) (EX:aX) (E:XK):Prop:=∀ C H' G',HR K H' G'→EX C G'→E (.ref C) none H'
def cT (K:Fg) (sp:rA):Sp:=fun vs H Q E=>∃ ds G R EX,bM K H ds vs∧HR K H G∧sp ds G R EX∧(∀ v H' d G',RD K H' d v→HR K H' G'→R d G'→Q v H')∧UpX K EX E
section
variable {X:Cx} {CX:zP} {k:Nat} {f C:Addr} {fd:FuncData} {ps:List Str} {sp:rA} {E:XK} {EX:aX} {x:Str} {p pos:Pos} {e:Expr} {es:List Expr} {t:n6}
def adI (n m:Nat) (tb:aX→bK):rA:=fun ds G R EX=>ds.length=m∧tb EX ⟨fun _ G'=>R .non G',R,fun _ _=>False,fun _ _=>False⟩ (lO n ds) G
end
end L2
namespace L2
open PySem PySem.Spec PyProof.Rows
def kJ (P:Program) (w:World):zP:=fun outer H s E e s'=>∃ (x C:Addr) (H':Hp) (B:Heap),e = .ref x∧Fly B outer x (.ref C) s'.heap∧nR P w H' B ∧
  (∀ b o,s.heap.get? b=some o→H b=none→b ∉ frs outer→B.get? b=some o)∧(∀ b o,s.heap.get? b=some o→b ∉ frs outer→∃ o',B.get? b=some o') ∧
  Un (frs outer) [] H H' s.heap s'.heap∧s'.os=s.os∧AllBare s'.gens∧E (.ref C) none H'
theorem a9J {l:List Env} {b:Addr} (h:b∈frs l):∃ env∈l,env.frame=some b:=List.mem_filterMap.mp h
theorem a4I {l:List Env} {b:Addr} {env:Env} (h:env∈l) (e:env.frame=some b):b∈frs l:=List.mem_filterMap.mpr ⟨env,h,e⟩
section
variable {qt:Bool} {P:Program} {w:World} {K:Fg} {mg:Str→Option Value} {base:Heap} {N:List Str} {qual:Str} {scope:Scope} {f:Addr} {cd:Value} {A:Around} {outer:List Env} {s₀:Shared} {H₀:Hp} {E:XK}
abbrev vO (qt:Bool) (P:Program) (w:World) (K:Fg) (mg:Str→Option Value) (base:Heap) (N:List Str) (qual:Str) (scope:Scope) (f:Addr) (cd:Value) (A:Around) (outer:List Env) (s₀:Shared) (H₀:Hp) (E:XK):Cx:=fV qt (kJ P w) P w K mg base N qual scope f cd A outer s₀ H₀ E
theorem fJ {X:Cx} {pins:List (Addr×Obj)} {σ:St} {H:Hp} {s:Shared} (I:Inv X pins σ H s) (hst:X.stack=X.env :: X.outer) (hf:X.env.frame=some X.env.locals) {b:Addr} {o:Obj} (e:X.s₀.heap.get? b=some o) (n:b ∉ frs X.outer):b ∉ frs X.stack:=fun hb=>by
  obtain ⟨env,he,hfr⟩:=a9J hb
  rw [hst] at he
  rcases List.mem_cons.mp he with rfl | he
  · have z:X.env.locals=b:=Option.some.inj (hf.symm.trans hfr)
    have h1:=I.ok.above
    have h2:=Heap.lt_size e
    rw [z] at h1
    exact absurd (Nat.lt_of_lt_of_le h2 h1) (Nat.lt_irrefl _)
  · exact n (a4I he hfr)
theorem ahS {pins:List (Addr×Obj)} {σ:St} {H:Hp} {s:Shared} {C e:Addr} {us:List Value} {h':Heap} (I:Inv (vO qt P w K mg base N qual scope f cd A outer s₀ H₀ E) pins σ H s) (hm:Heap.MadeExcOf s.heap h' e (.ref C) us) (q:E (.ref C) none H) :
    (vO qt P w K mg base N qual scope f cd A outer s₀ H₀ E).xe (.ref e) { s with heap:=h' }:=by
  have hst:(vO qt P w K mg base N qual scope f cd A outer s₀ H₀ E).stack=(vO qt P w K mg base N qual scope f cd A outer s₀ H₀ E).env :: outer:=rfl
  have hin:∀ env∈(vO qt P w K mg base N qual scope f cd A outer s₀ H₀ E).stack,∀ b,env.frame=some b→b∈frs (vO qt P w K mg base N qual scope f cd A outer s₀ H₀ E).stack:=fun env he b hb=>a4I he hb
  have hB:∀ b o,(PySem.W.hideAll s.heap (frs (vO qt P w K mg base N qual scope f cd A outer s₀ H₀ E).stack)).get? b=some o→s.heap.get? b=some o:=fun b o e=>PySem.W.of_hideAll _ e
  have toB:∀ b o,s.heap.get? b=some o→b ∉ frs (vO qt P w K mg base N qual scope f cd A outer s₀ H₀ E).stack→(PySem.W.hideAll s.heap (frs (vO qt P w K mg base N qual scope f cd A outer s₀ H₀ E).stack)).get? b=some o:=fun b o e n=>PySem.W.hideAll_get _ e n
  have fr:=PySem.W.funFrames_hide I.stack hin
  refine a7T (B:=PySem.W.hideAll s.heap (frs (vO qt P w K mg base N qual scope f cd A outer s₀ H₀ E).stack)) (h0:=s.heap) I.ok.frames rfl hB fr hm fun h2 k1 k4=>?_
  have up:∀ b o,s.heap.get? b=some o→(∀ vs,o.data ≠ .fields vs)→∃ sl,h2.get? b=some { o with slots:=sl }:=fun b o e nd=>k4 b o (hm.keeps b o e) nd
  have hfd:∀ b∈frs outer,∀ o,s.heap.get? b=some o→∀ vs,o.data ≠ .fields vs:=fun b hb o e=>by
    obtain ⟨_,o',ho',hd⟩:=I.lK.mem hb
    rw [e] at ho';cases ho'
    exact hd
  refine ⟨e,C,H,_,rfl,k1,?_,fun b o eb nb hb=>?_,fun b o eb hb=>?_,⟨fun b o eb nb hb _=>?_,fun b o eb nb hb _=>?_,fun b o eb nb hx=>I.base.free b o eb nb hx,fun b o eb hx=>?_,I.base.tups,I.base.d9,I.base.jO⟩,I.os,I.bare,q⟩
  · intro b o hb
    refine (I.hok b o hb).stay (fun c u hc eu=>toB c u eu fun hz=>?_) (fun _ z=>z) fun _ _ z=>z
    have n:=I.a3R c hz
    rcases hc with rfl | hc
    · rw [hb] at n;cases n
    · rw [hc] at n;cases n
  · exact toB b o (I.base.keep b o eb nb hb (by simp [fV])) (fJ I hst rfl eb hb)
  · obtain ⟨o',e'⟩:=I.base.there b o eb (by simp [fV])
    exact ⟨o',toB b o' e' (fJ I hst rfl eb hb)⟩
  · exact k1.stays b o (toB b o (I.base.keep b o eb nb hb (by simp [fV])) (fJ I hst rfl eb hb))
  · obtain ⟨sl,e1⟩:=I.base.slot b o eb nb hb (by simp [fV])
    obtain ⟨sl2,e2⟩:=up b _ e1 (hfd b hb _ e1)
    exact ⟨sl2,e2⟩
  · obtain ⟨o',e'⟩:=I.base.there b o eb (by simp [fV])
    by_cases hb:b∈frs outer
    · obtain ⟨sl,e1⟩:=up b o' e' (hfd b hb o' e')
      exact ⟨_,e1⟩
    · exact ⟨o',k1.stays b o' (toB b o' e' (fJ I hst rfl eb hb))⟩
theorem ahT {E':XK} (hE:∀ C H',E' C none H'→E C none H') {pins:List (Addr×Obj)} {σ:St} {H:Hp} {s s':Shared} {e:Value} (I:Inv (vO qt P w K mg base N qual scope f cd A outer s₀ H₀ E) pins σ H s)
    (c:kJ P w (vO qt P w K mg base N qual scope f cd A outer s₀ H₀ E).stack H s E' e s'):(vO qt P w K mg base N qual scope f cd A outer s₀ H₀ E).xe e s':=by
  obtain ⟨x,C,H',B,rfl,fl,hok,cov,a85,un,os,bare,q⟩:=c
  have hst:(vO qt P w K mg base N qual scope f cd A outer s₀ H₀ E).stack=(vO qt P w K mg base N qual scope f cd A outer s₀ H₀ E).env :: outer:=rfl
  refine acK (B:=B) I.ok.frames rfl fl fun h2 k1 k4=>?_
  have hfs:∀ b∈frs outer,b∈frs (vO qt P w K mg base N qual scope f cd A outer s₀ H₀ E).stack:=fun b hb=>by
    obtain ⟨env,he,hf⟩:=a9J hb
    exact a4I (List.mem_cons_of_mem _ he) hf
  have hfd:∀ b∈frs outer,∀ o,s'.heap.get? b=some o→∀ vs,o.data ≠ .fields vs:=fun b hb o e=>by
    obtain ⟨_,o',ho',hd⟩:=fl.alI.mem (hfs b hb)
    rw [e] at ho';cases ho'
    exact hd
  refine ⟨x,C,H',B,rfl,k1,hok,fun b o eb nb hb=>?_,fun b o eb hb=>?_,⟨fun b o eb nb hb _=>?_,fun b o eb nb hb _=>?_,fun b o eb nb hx=>?_,fun b o eb hx=>?_,fun b xs z=>un.tups b xs (I.base.tups b xs z),fun b o u z=>un.d9 b o u (I.base.d9 b o u z),fun b ps z=>?_⟩,os.trans I.os,bare,hE _ _ q⟩
  · exact cov b o (I.base.keep b o eb nb hb (by simp [fV])) (I.base.free b o eb nb (by simp [fV])) (fJ I hst rfl eb hb)
  · obtain ⟨o',e'⟩:=I.base.there b o eb (by simp [fV])
    exact a85 b o' e' (fJ I hst rfl eb hb)
  · exact k1.stays b o (cov b o (I.base.keep b o eb nb hb (by simp [fV])) (I.base.free b o eb nb (by simp [fV])) (fJ I hst rfl eb hb))
  · obtain ⟨sl,e1⟩:=I.base.slot b o eb nb hb (by simp [fV])
    obtain ⟨sl2,e2⟩:=un.slot b _ e1 (I.base.free b o eb nb (by simp [fV])) (hfs b hb) (by simp)
    obtain ⟨sl3,e3⟩:=k4 b _ e2 (hfd b hb _ e2)
    exact ⟨sl3,e3⟩
  · obtain ⟨o',e'⟩:=I.base.there b o eb (by simp [fV])
    exact un.free b o' e' (I.base.free b o eb nb (by simp [fV])) (by simp)
  · obtain ⟨o',e'⟩:=I.base.there b o eb (by simp [fV])
    by_cases hb:b∈frs outer
    · obtain ⟨o2,e2⟩:=un.there b o' e' (by simp)
      obtain ⟨sl,e3⟩:=k4 b o2 e2 (hfd b hb o2 e2)
      exact ⟨_,e3⟩
    · obtain ⟨o2,e2⟩:=a85 b o' e' (fJ I hst rfl eb hb)
      exact ⟨o2,k1.stays b o2 e2⟩
  · obtain ⟨m1,e1⟩:=I.base.jO b ps z
    obtain ⟨m2,e2⟩:=un.jO b _ e1
    exact ⟨m1++m2,by rw [e2,Array.append_assoc]⟩
end
def vP (K:Fg) (EX:aX):XK:=fun C _ H'=>∃ c G',C = .ref c∧HR K H' G'∧EX c G'
structure Cat (X:Cx) (EX:aN→aX):Prop where
  a6B:∀ pins σ H s ρ e s',Inv X pins σ H s→SR X.K H ρ σ→kJ X.prog X.w X.stack H s (vP X.K (EX ρ)) e s'→X.xe e s'
structure Thr (X:Cx) (EX:aN→aX):Prop where
  made:∀ pins σ H s ρ C e us h',Inv X pins σ H s→SR X.K H ρ σ→Heap.MadeExcOf s.heap h' e (.ref C) us→vP X.K (EX ρ) (.ref C) none H→X.xe (.ref e) { s with heap:=h' }
section
variable {qt:Bool} {P:Program} {w:World} {K:Fg} {mg:Str→Option Value} {base:Heap} {N:List Str} {qual:Str} {scope:Scope} {f:Addr} {cd:Value} {A:Around} {outer:List Env} {s₀:Shared} {H₀:Hp} {E:XK} {EX:aX}
theorem a6C (h:UpX K EX E) {C:Value} {H':Hp} (q:vP K EX C none H'):E C none H':=by
  obtain ⟨c,G',rfl,g,q⟩:=q
  exact h c H' G' g q
theorem an5 (h:UpX K EX E):Cat (vO qt P w K mg base N qual scope f cd A outer s₀ H₀ E) (fun _=>EX) :=
  ⟨fun pins σ H s ρ e s' I _ c=>ahT (E':=vP K EX) (fun C H' q=>a6C h q) I c⟩
theorem an6 (h:UpX K EX E):Thr (vO qt P w K mg base N qual scope f cd A outer s₀ H₀ E) (fun _=>EX) :=
  ⟨fun pins σ H s ρ C e us h' I _ hm q=>ahS I hm (a6C h q)⟩
theorem own1:PassesOwn (model P w) (vO qt P w K mg base N qual scope f cd A outer s₀ H₀ E).A (vO qt P w K mg base N qual scope f cd A outer s₀ H₀ E).env (vO qt P w K mg base N qual scope f cd A outer s₀ H₀ E).xe:=PassesOwn.leaving
end
section
variable {X:Cx} {k:Nat} {f C:Addr} {fd:FuncData} {ps:List Str} {sp:rA} {EX:aN→aX} {x:Str} {p pos:Pos} {e:Expr} {es:List Expr} {t:n6}
def bY (sp:rA) (EX:aN→aX) (t:n6):cB:=fun ρ G R=>t ρ G fun ds G1=>sp ds G1 R (EX ρ)
theorem a9K {pins:List (Addr×Obj)} {σ:St} {H:Hp} {s:Shared} {Q Q':VK} {us:List Value} {vs:List V} {E:XK} (F:cR qt X.prog X.w X.K X.mg X.base (kJ X.prog X.w) k f fd ps (cT X.K sp)) (hr:cH qt k X.A) (hb:Binds X.K fd ps [])
    (hx:∀ e s',kJ X.prog X.w X.stack H s E e s'→X.xe e s')
    (I:Inv X pins σ H s) (r:Vals vs us) (h:cT X.K sp vs H Q E) (hQ:∀ v H',Ts H H'→Q v H'→Q' v H'):wpAny (model X.prog X.w) X.A (call (.ref f) us) (EP X pins σ Q') X.xe s:=by
  have hl:(us++[]).length=ps.length:=by rw [List.append_nil,← r.length];exact F.len _ _ _ _ h
  refine wpAny_call (codeAny_mono (F.run X.A X.stack s H ⟨us,[]⟩ (us++[]) vs Q E hr I.env0 (hb s us I.xV hl) (by rw [List.append_nil];exact r) h) fun r s' hq=>?_)
  cases r with
  | error e=>exact hx e s' hq
  | ok fl =>
    cases fl with
    | ret u =>
      obtain ⟨v,H',os,bare,un,hok,r,q⟩:=hq
      exact ⟨v,H',I.call' (ch:=[]) os un hok bare (fun b z=>absurd z (by simp)),r,hQ v H' ⟨un.tups,un.d9⟩ q⟩
    | next=>exact False.elim hq
    | brk=>exact False.elim hq
    | cont=>exact False.elim hq
theorem ahU (F:cR qt X.prog X.w X.K X.mg X.base (kJ X.prog X.w) k f fd ps (cT X.K sp)) (hr:cH qt k X.A) (hg:Gl X x) (hm:X.mg x=some (.ref f)) (hk:PySem.W.keepIn X.K (.ref f)=true) (hb:Binds X.K fd ps []) (hx:Cat X EX)
    (ha:PA3 X (e :: es) t) (hdb:(x == ("__debug__" : Str))=false:=by decide) (he:starEach (e :: es) X.env=(false,eval e X.env) :: starEach es X.env:=by rfl) (hpl:(backTo pos (starEach es X.env)).any (·.1)=false:=by rfl) :
    cI X (.Call (.Name x p) (e :: es) [] pos) (bY sp EX t):=by
  intro pins s σ H Q I h _tk
  obtain ⟨ρ,G,R,sr,g,q,kk⟩:=h
  refine wpAny_Call_Name_kw (fU I hg hm ?_ hdb)
  refine PySem.W.callWith_K (h₀:=X.base) I.ok.mod.kin hk (cV (ha pos pins s σ H (fun vs H1=>Ts H H1∧∃ ds G1,bM X.K H1 ds vs∧HR X.K H1 G1∧sp ds G1 R (EX ρ)) I ⟨ρ,G,_,sr,g,q,fun vs H1 ds G1 t1 r1 g1 q1=>⟨t1,ds,G1,r1,g1,q1⟩⟩) fun us s1 ⟨vs,H1,I1,r,t1,ds,G1,r1,g1,q1⟩=>⟨I1.xV,?_⟩) he hpl
  refine a9K (E:=vP X.K (EX ρ)) F hr hb (fun e s' c=>hx.a6B pins σ H1 s1 ρ e s' I1 (sr.mono t1) c) I1 r (Q:=fun v H'=>∃ d G',RD X.K H' d v∧HR X.K H' G'∧R d G') ⟨ds,G1,R,EX ρ,r1,g1,q1,fun v H' d G' r2 g2 q2=>⟨d,G',r2,g2,q2⟩,fun C H' G' g' q'=>⟨C,G',rfl,g',q'⟩⟩ fun v H' t2 ⟨d,G',r2,g2,q2⟩=>kk v H' d G' (t1.trans t2) r2 g2 q2
theorem an7 {qt:Bool} {P:Program} {w:World} {K:Fg} {mg:Str→Option Value} {base:Heap} {x qual:Str} {st:Stmt} {f:Addr} {fd:FuncData} {N ps:List Str} {k:Nat} {tb:aX→bK} (F:vJ K x qual st f fd) (S:bF N ps (aH st))
    (hbody:∀ (cdv:Value) (A:Around) (outer:List Env) (s:Shared) (H:Hp) (E:XK) (EX:aX),cH qt k (A.deeper (envOfC qual (aH st) s.heap.objs.size f cdv))→UpX K EX E →
      uN (vO qt P w K mg base N qual (aH st) f cdv A outer s H E) (bN st) (tb EX)):cR qt P w K mg base (kJ P w) (k+1) f fd ps (cT K (adI N.length ps.length tb)):=by
  obtain ⟨oc,od,dV,kV,doc,pm,an,cdv,ct,osl,rfl,lk,hcd⟩:=F.ex
  have hpl:ps.length≤N.length:=by have:=congrArg List.length S.pre;rw [List.length_take] at this;omega
  refine akE lk hcd S (fun vs H Q E h=>?_) fun A outer s H vs Q E hr hsp=>?_
  · obtain ⟨ds,G,R,EX,r,g,⟨hl,q⟩,_⟩:=h
    rw [← r.length,hl]
  · obtain ⟨ds,G,R,EX,r,g,⟨hl,q⟩,kk,hE⟩:=hsp
    refine ⟨_,hbody cdv A outer s H E EX hr hE,lO N.length ds,G,_,?_,g,q,⟨fun ρ G' σ' H' s1 g1 q1=>kk .non H' .non G' .non g1 q1,fun d G' v H' r1 g1 q1=>kk v H' d G' r1 g1 q1,fun _ _ _ _ _ _ z=>z.elim,fun _ _ _ _ _ _ z=>z.elim⟩⟩
    unfold lO start
    rw [r.length]
    exact SR.entry r
end
section
variable {X:Cx} {C:Addr} {bmB bmN:List Value} {B Bn newId nid initId inN:String} {EX:aN→aX} {x:Str} {np cpos pos:Pos} {e:Expr} {es:List Expr} {t:n6}
theorem zA {K:Fg} {h:Heap} (XK:K.In h) (q:PySem.W.excIn K C bmB newId=true):∃ bm N nm q bs hdct sn sub ab col dd k0 k1 k2 k3 k5 mN,h.get? C=some (excClassObj nm q C N bs bm hdct sn sub ab col dd k0 k1 k2 k3 k5 newId)∧h.Ns N mN∧mN "__init__" = none∧OwnTail h bmB bm:=by
  unfold PySem.W.excIn at q
  split at q
  · rename_i dd cd sl ho
    split at q
    · rename_i C' bm k0 k1 k2 k3 n k5 hm hs
      simp only [Bool.and_eq_true,beq_iff_eq,Bool.not_eq_true'] at q
      obtain ⟨⟨⟨⟨⟨rfl,rfl⟩,hdel⟩,ht⟩,hok⟩,hni⟩:=q
      obtain ⟨nm,bs,mro,ns,qn,hd,sn,sub,ab,col,del⟩:=cd
      dsimp only at hm hdel hok hni
      subst hm hdel
      have hsl:sl=#[k0,k1,k2,k3,some (.builtin n),k5]:=by
        obtain ⟨l⟩:=sl
        simp only at hs
        rw [hs]
      subst hsl
      exact ⟨bm,ns,nm,qn,bs,hd,sn,sub,ab,col,dd,k0,k1,k2,k3,k5,_,XK _ _ ho,.of_isNs (PySem.W.isNs_of_in XK hok),PySem.W.nsMap_none_of_in XK hok hni,PySem.W.tail_of_in XK ht⟩
    · cases q
  · cases q
def tH (EX:aN→aX) (C:Addr) (t:n6):bK:=fun _ ρ G=>t ρ G fun ds G1=>ds.length≤sizeLine∧EX ρ C G1
theorem ahV (hc:X.calm=true) (Fn:ExcBaseFacts Bn newId inN bmN) (hBn:bmB.contains (.type Bn)=true) (FB:ExcBaseFacts B nid initId bmB) (hg:Gl X x) (hm:X.mg x=some (.ref C)) (hq:PySem.W.excIn X.K C bmB newId=true) (hT:Thr X EX)
    (ha:PA3 X (e :: es) t) (hd:(x == ("__debug__" : Str))=false:=by decide)
    (he:starEach (e :: es) X.env=(false,eval e X.env) :: starEach es X.env:=by rfl) (hplain:(backTo cpos (starEach es X.env)).any (·.1)=false:=by rfl) :
    PS3 X (.Raise (some (.Call (.Name x np) (e :: es) [] cpos)) none pos) (tH EX C t):=by
  intro pins s σ H F I h _tk
  obtain ⟨ρ,G,E3,sr,g,q,dd⟩:=h
  obtain ⟨tl,N,nm,q',bs,hdct,sn,sub,ab,col,dd',k0,k1,k2,k3,k5,mN,hC,hN,hni,T⟩:=zA I.mod.kin hq
  refine wpAny_Raise_call_subU (C:=C) (nm:=nm) (q:=q') (N:=N) (bs:=bs) (bm:=tl) (hdct:=hdct) (sn:=sn) (sub:=sub) (ab:=ab) (col:=col) (dd:=dd') (k0:=k0) (k1:=k1) (k2:=k2) (k3:=k3) (k5:=k5)
    Fn hBn FB (mN:=mN) (T.hasType FB.hasBase) (I.ok.hd hc) (by rw [he];show (false || (backTo cpos (starEach es X.env)).any (·.1))=false;rw [hplain];rfl) hni (fU I hg hm ⟨rfl,?_⟩ hd)
  have hA:=ha cpos pins s σ H (fun vs H1=>Ts H H1∧∃ ds G1,bM X.K H1 ds vs∧HR X.K H1 G1∧ds.length≤sizeLine∧EX ρ C G1) I ⟨ρ,G,_,sr,g,q,fun vs H1 ds G1 t1 r1 g1 q1=>⟨t1,ds,G1,r1,g1,q1.1,q1.2⟩⟩
  rw [he] at hA ⊢
  refine Calls.evalArgs_plain (cV hA fun us s2 ⟨vs,H2,I2,r2,t1,ds,G1,r1,g1,hl,q1⟩=>?_)
  exact ⟨rfl,by rw [← r2.length,← r1.length];exact hl,I2.bk _ _ hC,hN.keeps I2.bk,T.keeps I2.bk,fun h' e' hm'=>hT.made pins σ H2 s2 ρ C e' us h' I2 (sr.mono t1) hm' ⟨C,G1,rfl,g1,q1⟩⟩
end
end L2
namespace L2
open PySem PySem.Spec PyProof.Rows PySem.W
theorem vQ {env:Env}:∀ (l:List (Str×NameKind)) (acc:List (Str×Addr)),l.filter (fun p=>p.2 == .free)=[]→(forIn l acc fun (p:Str×NameKind) (cs:List (Str×Addr))=>(if p.2 == .free then do let c ← cellOf env p.1;pure (ForInStep.yield ((p.1,c) :: cs)) else pure (ForInStep.yield cs):Sem (ForInStep (List (Str×Addr)))))=pure acc
  | [],acc,_=>rfl
  | p :: r,acc,h=>by
    rw [List.filter_cons] at h
    split at h
    · cases h
    · rename_i q
      rw [List.forIn_cons,if_neg q,pure_bind]
      exact vQ r acc h
theorem yE {env:Env} {x:Str} {cc:Addr} (hc:env.cells.lookup x=some cc):∀ (l:List (Str×NameKind)) (acc:List (Str×Addr)),l.filter (fun p=>p.2 == .free)=[(x,.free)]→(forIn l acc fun (p:Str×NameKind) (cs:List (Str×Addr))=>(if p.2 == .free then do let c ← cellOf env p.1;pure (ForInStep.yield ((p.1,c) :: cs)) else pure (ForInStep.yield cs):Sem (ForInStep (List (Str×Addr)))))=pure ((x,cc) :: acc)
  | [],acc,h=>by cases h
  | p :: r,acc,h=>by
    rw [List.filter_cons] at h
    split at h
    · rename_i q
      have ⟨e1,e2⟩:=List.cons.inj h
      subst e1
      rw [List.forIn_cons,if_pos q]
      unfold cellOf
      simp only [hc,pure_bind]
      exact vQ r _ e2
    · rename_i q
      rw [List.forIn_cons,if_neg q,pure_bind]
      exact yE hc r acc h
theorem zW {scope:Scope} {env:Env} {x:Str} {cc:Addr} (h:scope.names.filter (fun p=>p.2 == .free)=[(x,.free)]) (hc:env.cells.lookup x=some cc):closureFor scope env=pure [(x,cc)]:=by
  unfold closureFor
  have:=yE hc scope.names [] h
  simp only [bind_pure]
  refine Eq.trans ?_ this
  congr 1
theorem ahW {X:Cx} {a b:List Stmt} {t u:TS} (h1:z8 X a t) (h2:z8 X b u):z8 X (a++b) (alY t u):=by
  intro pins s σ H D I h _tk
  rw [wY]
  refine wpAny_bind (cV (h1 pins s σ H { D with nx:=u D } I h) fun f s1 q=>?_)
  intro aqA
  cases f with
  | next =>
    obtain ⟨σ',H',I',q⟩:=q
    exact h2 pins s1 σ' H' D I' q
  | ret v=>exact wpAny_pure q
  | brk=>exact wpAny_pure q
  | cont=>exact wpAny_pure q
theorem ahX {K:Fg} {H:Hp} {G:Gp} {p:Addr} (g:HR K H G) (n:H p=none) (kn:K.lookup p=none):G p=none:=by
  cases q:G p with
  | none=>rfl
  | some u =>
    have z:=g p u q
    cases u with
    | lst ds=>obtain ⟨xs,e,_⟩:=z;rw [n] at e;cases e
    | rol ds =>
      obtain ⟨xs,e,_⟩:=z
      rcases e with (e | ⟨o,e⟩) | ⟨o,_,_,e,_⟩
      · rw [n] at e;cases e
      · rw [n] at e;cases e
      · rw [kn] at e;cases e
    | tV tt kvs =>
      rcases z with ⟨_,xs,e,_⟩ | ⟨_,xs,e,_⟩
      · rw [n] at e;cases e
      · rw [n] at e;cases e
    | rdc ob tt kvs =>
      rcases z with ⟨_,xs,e,_⟩ | ⟨_,xs,e,_⟩
      · rw [n] at e;cases e
      · rw [n] at e;cases e
    | ins C fs=>obtain ⟨dx,vs,e,_⟩:=z;rw [n] at e;cases e
    | z9 C=>obtain ⟨o,vs,e,_⟩:=z;rw [n] at e;cases e
    | kst ks=>obtain ⟨_,_,_,e,_⟩:=z;rw [n] at e;cases e
    | tab q p=>obtain ⟨_,e,_⟩:=z;rw [n] at e;cases e
    | clo c d=>obtain ⟨_,_,_,_,_,_,_,_,e,_⟩:=z;rw [n] at e;cases e
    | tpl ds =>
      obtain ⟨xs,e,_⟩:=z
      rcases e with (e | ⟨o,e⟩) | ⟨o,_,_,e,_⟩
      · rw [n] at e;cases e
      · rw [n] at e;cases e
      · rw [kn] at e;cases e
def as7 (n m:Nat) (tb:aX→bK) (T:Addr) (c:vM) (pos:Pos) (ix:Nat):rA:=fun ds G R EX=>ds.length=m∧tb EX ⟨fun ρ G'=>ρ.length=n∧G' T=some (.tab c.qual pos)∧∃ d,at3 ρ ix=some d∧∀ f,G' f=none→R (.ref f) (aL G' f (.clo c d)),fun _ _=>False,fun _ _=>False,fun _ _=>False⟩ (lO n ds) G
theorem an8 {qt:Bool} {P:Program} {w:World} {K:Fg} {mg:Str→Option Value} {base:Heap} {x qual:Str} {st:Stmt} {f cC T:Addr} {fd:FuncData} {N ps:List Str} {k ig ix:Nat} {tb:aX→bK} {pre:List Stmt} {c:vM} {pos pg pr:Pos} (F:vJ K x qual st f fd) (S:bF N ps (aH st))
    (hb:bN st=(pre++[.FunctionDef c.name c.params c.body [] none [] c.scope none c.name pos])++[.Return (some (.Name c.name pg)) pr]) (hd0:c.params.defaults=[]) (hk0:c.params.kw_defaults=[]) (ha:∀ env,annTrees c.params none env=[])
    (hq:qual ++ ".<locals>." ++ c.name=c.qual) (hfc:fd.code = .ref cC) (hC:CodeHd base cC T) (hbt:base.BuiltinsAt mg T) (hcf:c.scope.names.filter (fun p=>p.2 == .free)=[(c.x,.free)])
    (hig:N[ig]?=some c.name) (hgl:(aH st).names.lookup c.name=some .local) (hix:N[ix]?=some c.x) (hxc:(aH st).names.lookup c.x=some .cell) (hne:ig≠ix) (hdb:(c.name == ("__debug__" : Str))=false) (hcd:(c.name == ("__classdict__" : Str))=false)
    (hbody:∀ (cdv:Value) (A:Around) (outer:List Env) (s:Shared) (H:Hp) (E:XK) (EX:aX),cH qt k (A.deeper (envOfC qual (aH st) s.heap.objs.size f cdv))→UpX K EX E →
      uN (vO qt P w K mg base N qual (aH st) f cdv A outer s H E) pre (tb EX)):cR qt P w K mg base (kJ P w) (k+1) f fd ps (cT K (as7 N.length ps.length tb T c pos ix)):=by
  obtain ⟨oc,od,dV,kV,doc,pm,an,cdv,ct,osl,rfl,lk,awK⟩:=F.ex
  rw [hb] at lk ⊢
  have ecd:cdv = .ref cC:=hfc
  subst ecd
  refine ad9 lk awK S (fun vs H Q E h=>?_) hig (.inl hgl) hix hxc hdb hcd fun A outer s H vs Q E hr hsp=>?_
  · obtain ⟨ds,G,R,EX,r,g,⟨hl,q⟩,_⟩:=h
    rw [← r.length,hl]
  · obtain ⟨ds,G,R,EX,r,g,⟨hl,q⟩,kk,hE⟩:=hsp
    obtain ⟨c0,e0⟩:=vB (n:=s.heap.objs.size+1) hxc
    have pf:=ahI (X:=vO qt P w K mg base N qual (aH st) f (.ref cC) A outer s H E) (name:=c.name) (qual:=c.qual) (params:=c.params) (body:=c.body) (scope:=c.scope) (pos:=pos) (clos:=[(c.x,c0)]) (c:=cC) (T:=T) (i:=ig) hd0 hk0 (ha _) (by
      show (if (aH st).names.lookup c.name == some .globalExplicit then c.name else qual ++ ".<locals>." ++ c.name)=c.qual
      rw [hgl];exact hq) hC hbt rfl (zW hcf e0) S.nd hig (.inl hgl) (.inl rfl)
    refine ⟨_,ahW (hbody (.ref cC) A outer s H E EX hr hE) (a97 pf),lO N.length ds,G,_,?_,g,q,⟨fun ρ G' σ' H' s1 g1 q1=>?_,fun _ _ _ _ _ _ z=>z.elim,fun _ _ _ _ _ _ z=>z.elim,fun _ _ _ _ _ _ z=>z.elim⟩⟩
    · unfold lO start
      rw [r.length]
      exact SR.entry r
    · obtain ⟨hρ,hT,d,hd,hR⟩:=q1
      obtain ⟨ps1,eT,tst⟩:=g1 T _ hT
      refine ⟨ps1,eT,tst,fun fA c' awL ctv ps' H2 kf ff hf rc hT2 awM kp=>?_⟩
      obtain ⟨vv,e1,rd⟩:=s1.get hd
      have lσ:ig < σ'.length:=by
        rw [← s1.len,hρ]
        exact (List.getElem?_eq_some_iff.mp hig).1
      refine ⟨fA,vv,by rw [List.getElem?_set_self lσ],by rw [List.getElem?_set_ne hne];exact e1,fun cc u ob ec rv hob hn=>?_⟩
      have ecc:cc=c0:=by rw [e0] at ec;exact (Option.some.inj ec).symm
      subst ecc
      have ts:Ts H' (upd H2 cc (wX ob)):=by
        refine ⟨fun a xs q0=>?_,fun a o u q0=>?_⟩
        · have:=kp a _ (rB q0 eT (fun z=>by cases z)) q0
          rw [aK (aP this hn)];exact this
        · have:=kp a _ (rB q0 eT (fun z=>by cases z)) q0
          rw [aK (aP this hn)];exact this
      have up:∀ a u,H2 a=some u→upd H2 cc (wX ob) a=some u:=fun a u q=>by rw [aK (aP q hn)];exact q
      have gf:G' fA=none:=ahX g1 ff kf
      refine kk (.ref fA) _ (.ref fA) _ (.ref fA) (fun a o q0=>?_) (hR fA gf)
      by_cases z:a=fA
      · subst z
        rw [aF] at q0;cases q0
        exact ⟨cc,c',awL,_,ctv,ob,u,vv,up _ _ hf,rc.keep fun b o φ q=>up _ _ q,aJ,hob,rv,rd.mono ts⟩
      · rw [cG z] at q0
        by_cases y:a=T
        · rw [y,hT] at q0;cases q0
          rw [y]
          exact ⟨ps',up _ _ hT2,awM.keep fun b o φ q=>up _ _ q⟩
        · exact (g1 a o q0).keep ts fun u q=>up _ _ (kp a u y q)
structure Tq (H H':Hp):Prop where
  tups:∀ a xs,H a=some (.tup xs)→H' a=some (.tup xs)
  an9:∀ a o xs,H a=some (.mZ o (.tup xs))→H' a=some (.mZ o (.tup xs))
theorem Tq.sqT {K:Fg} {H H':Hp} (t:Tq H H') {a:Addr} {xs:List V} (h:rD K H a xs):rD K H' a xs:=by
  rcases h with (h | ⟨o,h⟩) | h
  · exact .inl (.inl (t.tups _ _ h))
  · exact .inl (.inr ⟨o,t.an9 _ _ _ h⟩)
  · exact .inr h
mutual
theorem RD.n8 {K:Fg} {H H':Hp} (t:Tq H H'):∀ {d:D} {v:V},RD K H d v→RD K H' d v
  | _,_,.non => .non
  | _,_,.bl b => .bl b
  | _,_,.int i => .int i
  | _,_,.str x => .str x
  | _,_,.ty n => .ty n
  | _,_,.ref a => .ref a
  | _,_,.tup h r e => .tup (t.sqT h) (bM.n8 t r) trivial
theorem bM.n8 {K:Fg} {H H':Hp} (t:Tq H H'):∀ {ds:List D} {vs:List V},bM K H ds vs→bM K H' ds vs
  | _,_,.nil => .nil
  | _,_,.cons h r => .cons (RD.n8 t h) (bM.n8 t r)
end
def a6D:GO→Bool
  | .clo _ _=>true
  | _=>false
def offC (G:Gp):Gp:=fun a=>match G a with
  | some o=>if a6D o then none else some o
  | none=>none
def onC (G G2:Gp):Gp:=fun a=>match G a with
  | some o=>if a6D o then some o else G2 a
  | none=>G2 a
section
variable {K:Fg} {H:Hp} {cc:Addr} {ob:Obj} {u:Value}
theorem adJ (hc:H cc=some (wX ob)):Tq H (tU H cc) :=
  ⟨fun a xs q=>by rw [lN (rB q hc (fun z=>by cases z))];exact q,fun a o xs q=>by rw [lN (rB q hc (fun z=>by cases z))];exact q⟩
theorem qU.tU {c':Addr} {q:Str} (hc:H cc=some (wX ob)) (hob:ob.data = .cell (some u)) (r:qU H c' q):qU (tU H cc) c' q:=by
  obtain ⟨oc,vs,t,e,d,r⟩:=r
  refine ⟨oc,vs,t,?_,d,r⟩
  rw [lN (fun z=>by subst z;rw [hc] at e;cases e;rw [hob] at d;cases d)];exact e
theorem OR.tU {a:Addr} {o:GO} (hc:H cc=some (wX ob)) (hob:ob.data = .cell (some u)) (h:OR K H a o) (n:a6D o=false):OR K (L2.tU H cc) a o:=by
  have t:=adJ hc
  have k:∀ v,H a=some v→v≠wX ob→L2.tU H cc a=some v:=fun v q ne=>by rw [lN (fun z=>by subst z;rw [hc] at q;exact ne (Option.some.inj q).symm)];exact q
  cases o with
  | lst ds=>obtain ⟨xs,e,r⟩:=h;exact ⟨xs,k _ e (fun z=>nomatch z),r.n8 t⟩
  | rol ds =>
    obtain ⟨xs,e,r⟩:=h
    refine ⟨xs,?_,r.n8 t⟩
    rcases e with (e | ⟨o,e⟩) | e
    · exact .inl (.inl (k _ e (fun z=>nomatch z)))
    · exact .inl (.inr ⟨o,k _ e (fun z=>by cases z)⟩)
    · exact .inr e
  | tV b kvs =>
    rcases h with ⟨z,xs,e,r⟩ | ⟨z,xs,e,r⟩
    · exact .inl ⟨z,xs,k _ e (fun z=>nomatch z),r.imp fun _ _ q=>⟨q.1,q.2.n8 t⟩⟩
    · exact .inr ⟨z,xs,k _ e (fun z=>nomatch z),r.imp fun _ _ q=>⟨q.1,q.2.n8 t⟩⟩
  | ins C fs=>obtain ⟨dx,vs,e,r⟩:=h;exact ⟨dx,vs,k _ e (fun z=>nomatch z),r.imp fun _ _ q=>⟨q.1,q.2.n8 t⟩⟩
  | rdc ob b kvs =>
    rcases h with ⟨z,xs,e,r⟩ | ⟨z,xs,e,r⟩
    · exact .inl ⟨z,xs,k _ e (fun z=>by cases z),r.imp fun _ _ q=>⟨q.1,q.2.n8 t⟩⟩
    · exact .inr ⟨z,xs,k _ e (fun z=>by cases z),r.imp fun _ _ q=>⟨q.1,q.2.n8 t⟩⟩
  | z9 C =>
    obtain ⟨o,vs,e,d,r⟩:=h
    refine ⟨o,vs,?_,d,r⟩
    rw [lN (fun z=>by
      subst z
      rw [hc] at e
      have e:=Option.some.inj e
      injection e with e1 e2
      rw [← e1,hob] at d
      cases d)]
    exact e
  | tpl ds=>obtain ⟨xs,e,r⟩:=h;exact ⟨xs,t.sqT e,r.n8 t⟩
  | kst ks=>obtain ⟨P,w,xs,e,r,q⟩:=h;exact ⟨P,w,xs,k _ e (fun z=>nomatch z),r,fun x hx=>⟨(q x hx).1,t.sqT (q x hx).2⟩⟩
  | tab q p =>
    obtain ⟨ps,e,r⟩:=h
    refine ⟨ps,k _ e (fun z=>nomatch z),?_⟩
    rcases r with r | ⟨c',e,r⟩
    · exact .inl r
    · exact .inr ⟨c',e,r.tU hc hob⟩
  | clo c d=>cases n
theorem HR.tU {G:Gp} (hc:H cc=some (wX ob)) (hob:ob.data = .cell (some u)) (g:HR K H G):HR K (L2.tU H cc) (offC G):=fun a o e=>by
  unfold offC at e
  split at e
  · rename_i o' q
    split at e
    · cases e
    · rename_i n
      cases e
      exact (g a _ q).tU hc hob (by simpa using n)
  · cases e
end
def rM (qt:Bool) (P:Program) (w:World) (K:Fg) (mg:Str→Option Value) (base:Heap) (k:Nat) (c:vM) (sp:rA):Prop :=
  ∀ (A:Around) (outer:List Env) (s:Shared) (H:Hp) (us:List Value) (vs:List V) (ds:List D) (d:D) (G:Gp) (R:dG) (E:XK) (f:Addr),cH qt k A→uJ P w K mg base A outer s H→A.handled=none→HR K H G→G f=some (.clo c d)→Vals vs us→bM K H ds vs→sp (d :: ds) (offC G) R (fun _ _=>False) →
    codeAny (model P w) A (.call (.ref f) ⟨us,[]⟩) (CR (kJ P w) outer P w H s (fun v H'=>∃ d' G2,RD K H' d' v∧HR K H' G2∧R d' G2) E) s
theorem anA {qt:Bool} {P:Program} {w:World} {K:Fg} {mg:Str→Option Value} {base:Heap} {k:Nat} {c:vM} {N ps:List Str} {tb:aX→bK} (S:ScX N ps c.x c.scope) (zU:∀ y∈c.scope.names,y.1=c.x→y.2 ≠ .cell)
    (hb:∀ (cl:List (Str×Addr)) (doc pm cdv ctv:Value) (us:List Value),us.length=ps.length→bindArgs (fnX c.name c.qual c.params c.body c.scope cl .none .none doc pm none cdv ctv) ⟨us,[]⟩=pure (ps.zip us))
    (hbody:∀ (f c' cc:Addr) (A:Around) (outer:List Env) (s:Shared) (H:Hp),cH qt k (A.deeper (lM c.qual c.scope s.heap.objs.size f (.ref c') [(c.x,cc)])) →
      uN (cxX qt (kJ P w) P w K mg base N c.qual c.scope f (.ref c') c.x cc A outer s H (fun _ _ _=>False)) c.body (tb fun _ _=>False)) :
    rM qt P w K mg base (k+1) c (adI N.length (ps.length+1) tb):=by
  intro A outer s H us vs ds d G R E f hr e0 hh g hf rv rd hsp
  obtain ⟨hl,hq⟩:=hsp
  obtain ⟨cc,c',doc,pm,ctv,ob,u,vv,e1,e2,e3,e4,e5,e6⟩:=g f _ hf
  have hl':vs.length=ps.length:=by rw [← rd.length];simpa using hl
  have t:=adJ e3
  refine ahK S zU hr e0 e1 e2 e3 e4 e5 hh (.of_eq (hb _ _ _ _ _ us (by rw [← rv.length];exact hl'))) rv hl' (fun e s' z=>?_) fun hr2=>?_
  · obtain ⟨_,_,_,_,_,_,_,_,_,_,_,_,z⟩:=z
    exact z
  · refine ⟨_,hbody f c' cc A outer s (L2.tU H cc) hr2,lO N.length (d :: ds),offC G,_,?_,g.tU e3 e4,hq,⟨fun ρ G' σ' H' s1 g1 q1 n=>?_,fun d' G' v H' r1 g1 q1 n=>?_,fun _ _ _ _ _ _ z=>z.elim,fun _ _ _ _ _ _ z=>z.elim⟩⟩
    · unfold lO start
      rw [show (d :: ds).length=(vv :: vs).length by simp [rd.length]]
      exact SR.entry (.cons (e6.n8 t) (rd.n8 t))
    · exact ⟨.non,G',.non,g1.same (bB n),q1⟩
    · exact ⟨d',G',r1.mono (.same (bB n)),g1.same (bB n),q1⟩
section
variable {X:Cx} {k i:Nat} {c:vM} {sp:rA} {y:Str} {p pos:Pos} {e:Expr} {es:List Expr} {t:n6}
def uT (i:Nat) (c:vM) (sp:rA) (t:n6):cB:=fun ρ G R=>∃ f d,at3 ρ i=some (.ref f)∧G f=some (.clo c d)∧t ρ G fun ds G1=>G1 f=some (.clo c d)∧sp (d :: ds) (offC G1) (fun v G2=>R v (onC G1 G2)) (fun _ _=>False)
theorem ahY (C:rM qt X.prog X.w X.K X.mg X.base k c sp) (hr:cH qt k X.A) (hc:X.calm=true) (hN:X.N[i]?=some y) (hv:Vis X.env.scope y) (hdb:(y == ("__debug__" : Str))=false) (hcd:(y == ("__classdict__" : Str))=false) (ha:PA3 X (e :: es) t)
    (he:starEach (e :: es) X.env=(false,eval e X.env) :: starEach es X.env:=by rfl) (hpl:(backTo pos (starEach es X.env)).any (·.1)=false:=by rfl):cI X (.Call (.Name y p) (e :: es) [] pos) (uT i c sp t):=by
  intro pins s σ H Q I h _tk
  obtain ⟨ρ,G,R,sr,g,⟨f,d,h1,h2,q⟩,kk⟩:=h
  obtain ⟨v,e1,rd⟩:=sr.get h1
  cases rd
  obtain ⟨m,hn,hl⟩:=I.loc
  obtain ⟨u,r,l⟩:=hl i y _ hN e1 hv
  obtain rfl:u=Value.ref f:=r
  have asA:∀ {H:Hp} {s:Shared} {G:Gp},Inv X pins σ H s→HR X.K H G→G f=some (.clo c d)→FnAt f s.heap:=fun {H s G} I g h=>by
    obtain ⟨cc,c',doc,pm,ctv,ob,u,vv,z,_⟩:=g f _ h
    exact ⟨_,_,_,_,(I.hok f _ z).1⟩
  have main:wpAny (model X.prog X.w) X.A (callWith pos (.ref f) [] (backTo pos (starEach (e :: es) X.env)) []) (EP X pins σ Q) X.xe s:=by
    refine callWith_F (asA I g h2) (cV (ha pos pins s σ H (fun vs H1=>Ts H H1∧∃ ds G1,bM X.K H1 ds vs∧HR X.K H1 G1∧G1 f=some (.clo c d)∧sp (d :: ds) (offC G1) (fun v G2=>R v (onC G1 G2)) (fun _ _=>False)) I ⟨ρ,G,_,sr,g,q,fun vs H1 ds G1 t1 r1 g1 q1=>⟨t1,ds,G1,r1,g1,q1⟩⟩) fun us s1 ⟨vs,H1,I1,r,t1,ds,G1,r1,g1,h3,q1⟩=>⟨asA I1 g1 h3,?_⟩) he hpl
    refine wpAny_call (codeAny_mono (C X.A X.stack s1 H1 us vs ds d G1 _ (fun _ _ _=>False) f hr I1.env0 (I1.ok.hd hc) g1 h3 r r1 q1) fun r s' hq=>?_)
    cases r with
    | error e =>
      obtain ⟨_,_,_,_,_,_,_,_,_,_,_,_,z⟩:=hq
      exact z.elim
    | ok fl =>
      cases fl with
      | ret u =>
        obtain ⟨v,H',os,bare,un,hok,r,d',G2,r2,g2,q2⟩:=hq
        refine ⟨v,H',I1.call' (ch:=[]) os un hok bare (fun b z=>absurd z (by simp)),r,kk v H' d' (onC G1 G2) (t1.trans ⟨un.tups,un.d9⟩) r2 (fun a o z=>?_) q2⟩
        unfold onC at z
        split at z
        · rename_i o' q0
          split at z
          · rename_i hcl
            cases z
            cases o with
            | clo c2 d2 =>
              have w:=g1 a _ q0
              refine w.keep ⟨un.tups,un.d9⟩ fun uu qq=>?_
              obtain ⟨_,_,_,_,_,_,_,_,ew,_⟩:=w
              rw [ew] at qq;cases qq
              exact un.d9 _ _ _ ew
            | _=>cases hcl
          · exact g2 a o z
        · exact g2 a o z
      | next=>exact False.elim hq
      | brk=>exact False.elim hq
      | cont=>exact False.elim hq
  rcases l with ⟨hk,hm⟩ | ⟨hk,cc,hcc,hcell⟩
  · exact wpAny_Call_Name_kw (wpAny_Name (wpAny_loadName_local I.ok.kind hk hn hm main) hdb)
  · rcases hk with hk | hk
    · exact wpAny_Call_Name_kw (wpAny_Name (wpAny_loadName_cell I.ok.kind hk hcc hcell main) hdb)
    · exact wpAny_Call_Name_kw (wpAny_Name (wpAny_loadName_free I.ok.kind hk hcc hcell main hcd) hdb)
end
end L2
namespace L2
open PySem PySem.Spec PyProof.Rows
def zX:aN→Nat→aN
  | [],_=>[]
  | _ :: r,0=>none :: r
  | x :: r,n+1=>x :: zX r n
def wZ:St→Nat→St
  | [],_=>[]
  | _ :: r,0=>none :: r
  | x :: r,n+1=>x :: wZ r n
theorem SR.clr {K:Fg} {H:Hp}:∀ {ρ:aN} {σ:St} (i:Nat),SR K H ρ σ→SR K H (zX ρ i) (wZ σ i)
  | _,_,_,.nil => .nil
  | _,_,0,.none r => .none r
  | _,_,0,.some _ r => .none r
  | _,_,i+1,.none r => .none (SR.clr i r)
  | _,_,i+1,.some h r => .some h (SR.clr i r)
theorem a6E:∀ (σ:St) (i:Nat),(wZ σ i).length=σ.length
  | [],_=>rfl
  | _ :: _,0=>rfl
  | _ :: r,i+1=>congrArg (·+1) (a6E r i)
theorem a6F:∀ (σ:St) (i j:Nat) (v:V),(wZ σ i)[j]?=some (some v)→j≠i∧σ[j]?=some (some v)
  | [],_,_,_,h=>by simp [wZ] at h
  | _ :: _,0,0,_,h=>by simp [wZ] at h
  | _ :: _,0,j+1,_,h=>⟨by omega,by simpa [wZ] using h⟩
  | _ :: _,i+1,0,_,h=>⟨by omega,by simpa [wZ] using h⟩
  | _ :: r,i+1,j+1,v,h=>by
    obtain ⟨a,b⟩:=a6F r i j v (by simpa [wZ] using h)
    exact ⟨by omega,by simpa using b⟩
section
variable {X:Cx}
def xeT (X:Cx) (EX:aN→aX):Value→Shared→Prop:=fun e s'=>∃ pins σ H s ρ,Inv X pins σ H s∧SR X.K H ρ σ∧kJ X.prog X.w X.stack H s (vP X.K (EX ρ)) e s'
abbrev ahZ (X:Cx) (pn:List (Addr×Obj)) (EX:aN→aX):Cx:={ X with pn:=X.pn++pn,xe:=xeT { X with pn:=X.pn++pn } EX }
abbrev abL (X:Cx) (x:Addr):Cx:={ X with A:=X.A.mark (some (.ref x)),calm:=false,xe:=fun _ _=>False,need:=false }
theorem asC (ok:X.Ok) (pn:List (Addr×Obj)) (E:Value→Shared→Prop):({ X with pn:=pn,xe:=E }:Cx).Ok :=
  ⟨ok.mod,ok.kind,ok.glob,ok.blt,ok.above,ok.inj,ok.has,ok.cab,ok.hd,ok.frames,ok.stk,ok.exf,ok.bs,ok.bsz,ok.yO,ok.zL,ok.lK,ok.frf⟩
theorem ai0 {pins:List (Addr×Obj)} {σ:St} {H:Hp} {s:Shared} (I:Inv X pins σ H s) (E:Value→Shared→Prop):Inv ({ X with pn:=X.pn++pins,xe:=E }:Cx) [] σ H s :=
  ⟨asC I.ok _ _,I.os,I.bare,I.base,I.loc,I.cell,I.free,I.fG,fun p hp=>I.pin p (by simpa using hp),I.hok,I.len,I.hnd,I.tup⟩
theorem oA {pins rC:List (Addr×Obj)} {σ:St} {H:Hp} {s:Shared} {E:Value→Shared→Prop} (I:Inv ({ X with pn:=X.pn++pins,xe:=E }:Cx) rC σ H s):Inv X pins σ H s :=
  ⟨⟨I.ok.mod,I.ok.kind,I.ok.glob,I.ok.blt,I.ok.above,I.ok.inj,I.ok.has,I.ok.cab,I.ok.hd,I.ok.frames,I.ok.stk,I.ok.exf,I.ok.bs,I.ok.bsz,I.ok.yO,I.ok.zL,I.ok.lK,I.ok.frf⟩,I.os,I.bare,I.base,I.loc,I.cell,I.free,I.fG,fun p hp=>I.pin p (List.mem_append_left _ hp),I.hok,I.len,I.hnd,I.tup⟩
theorem a9L {pins:List (Addr×Obj)} {σ:St} {H:Hp} {s:Shared} (I:Inv X pins σ H s) (x:Addr) (q:Hnd (X.A.mark (some (.ref x))) H):Inv (abL X x) pins σ H s :=
  ⟨⟨I.ok.mod,I.ok.kind,I.ok.glob,I.ok.blt,I.ok.above,I.ok.inj,I.ok.has,I.ok.cab,(fun z=>nomatch z),I.ok.frames,I.ok.stk,I.ok.exf,I.ok.bs,I.ok.bsz,I.ok.yO,I.ok.zL,I.ok.lK,I.ok.frf⟩,I.os,I.bare,I.base,I.loc,I.cell,I.free,I.fG,I.pin,I.hok,I.len,q,I.tup⟩
theorem tK {pins:List (Addr×Obj)} {σ:St} {H:Hp} {s:Shared} {x:Addr} (ok:X.Ok) (hn:X.A.handled=none) (I:Inv (abL X x) pins σ H s):Inv X pins σ H s :=
  ⟨ok,I.os,I.bare,I.base,I.loc,I.cell,I.free,I.fG,I.pin,I.hok,I.len,.inl hn,I.tup⟩
theorem awN (pn:List (Addr×Obj)) (EX:aN→aX):Cat (ahZ X pn EX) EX:=⟨fun pins σ H s ρ e s' I sr c =>
  ⟨pins,σ,H,s,ρ,⟨⟨I.ok.mod,I.ok.kind,I.ok.glob,I.ok.blt,I.ok.above,I.ok.inj,I.ok.has,I.ok.cab,I.ok.hd,I.ok.frames,I.ok.stk,I.ok.exf,I.ok.bs,I.ok.bsz,I.ok.yO,I.ok.zL,I.ok.lK,I.ok.frf⟩,I.os,I.bare,I.base,I.loc,I.cell,I.free,I.fG,I.pin,I.hok,I.len,I.hnd,I.tup⟩,sr,c⟩⟩
theorem anB {P:Program} {w:World} {l:List Env} {H H':Hp} {s s':Shared} {h2 B:Heap} {x C:Addr} (fl:Fly B l x (.ref C) s'.heap) (cov:∀ b o,s.heap.get? b=some o→H b=none→b ∉ frs l→B.get? b=some o)
    (a85:∀ b o,s.heap.get? b=some o→b ∉ frs l→∃ o',B.get? b=some o') (un:Un (frs l) [] H H' s.heap s'.heap) (st:B.StaysIn h2) (up:s'.heap.UpToSlots h2):Un (frs l) [] H H' s.heap h2:=by
  have hfd:∀ b∈frs l,∀ o,s'.heap.get? b=some o→∀ vs,o.data ≠ .fields vs:=fun b hb o e=>by
    obtain ⟨_,o',ho',hd⟩:=fl.alI.mem hb
    rw [e] at ho';cases ho'
    exact hd
  refine ⟨fun b o eb nb hb _=>st b o (cov b o eb nb hb),fun b o eb nb hb hx=>?_,un.free,fun b o eb hx=>?_,un.tups,un.d9,un.jO⟩
  · obtain ⟨sl,e1⟩:=un.slot b o eb nb hb hx
    obtain ⟨sl2,e2⟩:=up b _ e1 (hfd b hb _ e1)
    exact ⟨sl2,e2⟩
  · by_cases hb:b∈frs l
    · obtain ⟨o2,e2⟩:=un.there b o eb hx
      obtain ⟨sl,e3⟩:=up b o2 e2 (hfd b hb o2 e2)
      exact ⟨_,e3⟩
    · obtain ⟨o2,e2⟩:=a85 b o eb hb
      exact ⟨o2,st b o2 e2⟩
theorem zB {M:Model} {A:Around} {E:Value→Shared→Prop} {pins:List (Addr×Obj)} {σ:St} {H:Hp} {s:Shared} {i:Nat} {n:Str} {pos:Pos} {Q:Unit→Shared→Prop} (I:Inv X pins σ H s) (hN:X.N.Nodup) (hi:X.N[i]?=some n) (hl:X.env.kindOf n=some .local)
    (h:∀ s',Inv X pins (wZ σ i) H s'→Q () s'):wpAny M A (do bindName X.env n .none;unbindBehindTheSuite X.env n pos) Q E s:=by
  obtain ⟨m,hn,hlo⟩:=id I.loc
  have cne:=I.cne
  refine wpAny_nameGoes_keeps hl hn (by rw [I.ok.kind];rfl) fun h' v hn' hs=>?_
  obtain ⟨oL,_,_,hoL,_⟩:=id hn
  refine h _ ⟨I.ok,I.os,I.bare,⟨fun b o e n hb hx=>?_,fun b o e n hb hx=>?_,I.base.free,fun b o e hx=>?_,I.base.tups,I.base.d9,I.base.jO⟩,⟨_,hn',fun j y v' e1 e2 e3=>?_⟩,fun y c e=>?_,I.free,I.fG,fun p hp=>?_,fun b ob e=>?_,(a6E σ i).trans I.len,I.hnd,I.tup⟩
  · exact (hs.2 b (Nat.ne_of_lt (Nat.lt_of_lt_of_le (Heap.lt_size e) I.ok.above))).trans (I.base.keep b o e n hb hx)
  · obtain ⟨sl,e1⟩:=I.base.slot b o e n hb hx
    exact ⟨sl,(hs.2 b (Nat.ne_of_lt (Nat.lt_of_lt_of_le (Heap.lt_size e) I.ok.above))).trans e1⟩
  · obtain ⟨o',e1⟩:=I.base.there b o e hx
    exact ⟨o',(hs.2 b (Nat.ne_of_lt (Nat.lt_of_lt_of_le (Heap.lt_size e) I.ok.above))).trans e1⟩
  · obtain ⟨hj,e2'⟩:=a6F σ i j v' e2
    obtain ⟨u',r',q⟩:=hlo j y v' e1 e2' e3
    refine ⟨u',r',?_⟩
    rcases q with ⟨k,e⟩ | ⟨k,c,e,z⟩
    · refine .inl ⟨k,?_⟩
      have:y≠n:=fun e=>hj (zM hN e1 (e ▸ hi))
      simp [this,e]
    · exact .inr ⟨k,c,e,z.sameBut hs (cne y c e)⟩
  · obtain ⟨w',z⟩:=I.cell y c e
    exact ⟨w',z.sameBut hs (cne y c e)⟩
  · obtain ⟨e,n,ne,nf,d⟩:=I.pin p hp
    exact ⟨(hs.2 p.1 ne).trans e,n,ne,nf,d⟩
  · refine (I.hok b ob e).stay (fun c w' hc q=>(hs.2 c ?_).trans q) (fun _ q=>q) fun _ _ q=>q
    rintro rfl
    have hfree:=I.free
    rcases hc with z | hc
    · rw [z,e] at hfree;cases hfree
    · rw [hfree] at hc;cases hc
theorem awO {M:Model} {A:Around} {E:Value→Shared→Prop} {K:Fg} {s:Shared} {x C Dc:Addr} {oe:Obj} {b:Bool} {Q:Bool→Shared→Prop} (KX:K.In s.heap) (he:s.heap.get? x=some oe) (hcls:oe.cls = .ref C)
    (hc:(PySem.W.clsIn K Dc).isSome=true) (ht:PySem.W.typeIn K (.ref Dc)=some (.type "type")) (hb:PySem.W.subIn K (.ref Dc) (.type "BaseException")=some true) (hs:PySem.W.subIn K (.ref C) (.ref Dc)=some b) (h:Q b s):wpAny M A (excMatches (.ref x) (.ref Dc)) Q E s:=by
  have l1:PySem.W.Looks M s.heap (typeOf (.ref Dc)) (.type "type"):=PySem.W.looks_typeIn KX ht
  have l2:PySem.W.Looks M s.heap (isSubtype (.ref Dc) (.type "BaseException")) true:=PySem.W.looks_subIn KX hb
  have l3:PySem.W.Looks M s.heap (isSubtype (.ref C) (.ref Dc)) b:=PySem.W.looks_subIn KX hs
  have l4:PySem.W.Looks M s.heap (typeOf (.ref x)) (.ref C):=by
    have z:=(PySem.W.Looks.ld (M:=M) (part:=none) he).andThen (f:=fun o=>pure o.cls) (b := .ref C) (by rw [hcls];exact .now)
    exact z
  have l0:PySem.W.Looks M s.heap (isSubtype (.type "type") (.type "tuple")) false := .of_pure tc_notTuple
  have lt:PySem.W.Looks M s.heap (isType (.ref Dc)) true:=by
    intro A' Q' E' s' k q
    cases eK:PySem.W.clsIn K Dc with
    | none=>rw [eK] at hc;cases hc
    | some cd =>
      unfold PySem.W.clsIn at eK
      split at eK
      · rename_i ho
        unfold isType loadHead
        exact wpAny_bind (wpAny_loadPart (k _ _ (KX _ _ ho)) (wpAny_pure q))
      · cases eK
  unfold excMatches isInstance isExcClass
  repeat (first | with_reducible refine PySem.W.Looks.here l0 ?_ | with_reducible refine PySem.W.Looks.here l1 ?_ | with_reducible refine PySem.W.Looks.here l2 ?_ | with_reducible refine PySem.W.Looks.here l3 ?_ | with_reducible refine PySem.W.Looks.here l4 ?_ | with_reducible refine PySem.W.Looks.here lt ?_ | wp_step)
  cases b <;> (wp_walk;exact h)
def a6G (K:Fg) (Dc:Addr) (i:Nat) (tb:(aN→aX)→bK) (th:bK):bK:=fun F ρ G =>
  tb (fun ρ1 C G1=>PySem.W.subIn K (.ref C) (.ref Dc)=some true∧∀ x,G1 x=none→th { nx:=fun ρ2 G2=>F.nx (zX ρ2 i) G2,rt:=F.rt,bk:=fun ρ2 G2=>F.bk (zX ρ2 i) G2,ct:=fun ρ2 G2=>F.ct (zX ρ2 i) G2 } (tW ρ1 i (.ref x)) (aL G1 x (.z9 C))) F ρ G
theorem adK {pins:List (Addr×Obj)} {EX:aN→aX} {F:Ends} {f:Flow} {s:Shared} (h:SP (ahZ X pins EX) [] F f s):SP X pins F f s:=by
  cases f with
  | next=>obtain ⟨σ',H',I,q⟩:=h;exact ⟨σ',H',oA I,q⟩
  | brk=>obtain ⟨σ',H',I,q⟩:=h;exact ⟨σ',H',oA I,q⟩
  | cont=>obtain ⟨σ',H',I,q⟩:=h;exact ⟨σ',H',oA I,q⟩
  | ret u=>obtain ⟨v,σ',H',I,r,q⟩:=h;exact ⟨v,σ',H',oA I,r,q⟩
theorem a6H {P:Program} {w:World} {H:Hp} {B:Heap} {x:Addr} (hok:nR P w H B) (n:B.get? x=none):H x=none:=by
  cases e0:H x with
  | none=>rfl
  | some o =>
    have lt:=(hok x o e0)
    obtain ⟨o',ho'⟩:∃ o',B.get? x=some o':=by
      cases o with
      | lst xs=>obtain ⟨_,_,_,_,e⟩:=lt;exact ⟨_,e⟩
      | tup xs=>obtain ⟨_,_,_,o,e,_⟩:=lt;exact ⟨_,e⟩
      | dK kvs=>obtain ⟨_,_,_,_,o,_,_,e,_⟩:=lt;exact ⟨_,e⟩
      | dT kvs=>obtain ⟨_,_,_,_,o,_,_,e,_⟩:=lt;exact ⟨_,e⟩
      | set S n=>obtain ⟨o,_,_,_,e,_⟩:=lt;exact ⟨_,e⟩
      | ins C dx fs=>obtain ⟨_,_,_,e,_⟩:=lt;exact ⟨_,e⟩
      | own y=>obtain ⟨_,e⟩:=lt;exact ⟨_,e⟩
      | xd fs=>obtain ⟨_,⟨_,_,_,e,_⟩,_⟩:=lt;exact ⟨_,e⟩
      | rng lo hi=>obtain ⟨_,_,_,e⟩:=lt;exact ⟨_,e⟩
      | mZ ob u=>obtain ⟨e,_⟩:=lt;exact ⟨_,e⟩
      | xU ps=>exact ⟨_,(show B.get? x=some _ from lt)⟩
      | met f y=>exact ⟨_,(show B.get? x=some _ from lt)⟩
      | ext φ=>obtain ⟨_,⟨_,e⟩,_⟩:=lt;exact ⟨_,e⟩
    rw [n] at ho';cases ho'
theorem asD {body:List Stmt} {b₀:Stmt} {suite:List Stmt} {n cx:Str} {Dc:Addr} {i:Nat} {tb:(aN→aX)→bK} {th:bK} {cp hpos pos:Pos}
    (hcm:X.calm=true) (hN:X.N.Nodup) (hi:X.N[i]?=some n) (hl:X.env.kindOf n=some .local) (hst:X.stack=X.env :: X.outer) (hfn:X.env.frame=some X.env.locals)
    (hg:Gl X cx) (hm:X.mg cx=some (.ref Dc)) (hc:(PySem.W.clsIn X.K Dc).isSome=true) (ht:PySem.W.typeIn X.K (.ref Dc)=some (.type "type")) (hbx:PySem.W.subIn X.K (.ref Dc) (.type "BaseException")=some true)
    (hb:∀ pn EX,uN (ahZ X pn EX) body (tb EX)) (hh:∀ x,uN (abL X x) (b₀ :: suite) th) (hd:(cx == ("__debug__" : Str))=false:=by decide) :
    PS3 X (.Try body [.ExceptHandler (some (.Name cx cp)) (some n) (b₀ :: suite) hpos] [] [] pos) (a6G X.K Dc i tb th):=by
  intro pins s σ H F I h _tk
  obtain ⟨ρ,G,E3,sr,g,q,d⟩:=h
  refine wpAny_Try_except (wpAny_mono (hb pins _ [] s σ H F (ai0 I _) ⟨ρ,G,E3,sr,g,q,d⟩) (fun f s1 q1=>?_) fun e s1 q1=>?_)
  · have q2:=adK q1
    cases f with
    | next=>exact wpAny_execs_nil q2
    | brk=>exact q2
    | cont=>exact q2
    | ret u=>exact q2
  · obtain ⟨rC,σ1,H1,s0,ρ1,I1,sr1,x,C,H',B,rfl,fl,hok,cov,a85,un,os,bare,c,G',e2,g',hsub,hth⟩:=q1
    cases e2
    have J1:Inv X pins σ1 H1 s0:=oA I1
    have hn:X.A.handled=none:=I.ok.hd hcm
    have hfr:X.A.frames=some (X.env :: X.outer):=by rw [← hst];exact I.ok.frames
    have fl':Fly B (X.env :: X.outer) x (.ref C) s1.heap:=by rw [← hst];exact fl
    refine a95 (B:=B) hfr hfn fl' fun h4 asF sm4=>?_
    refine z6 asF fun h5 fl5 sm5=>?_
    have hxB:B.get? x=none:=fl.new
    have nxH:H' x=none:=a6H hok hxB
    have track:∀ (h6:Heap) (oe:Obj) (ws:Array Value),Fly B (X.env :: X.outer) x (.ref C) h6→s1.heap.UpToSlots h6→h6.get? x=some oe→oe.cls = .ref C→oe.data = .fields ws →
        Inv X pins σ1 (upd H' x (.mZ oe (.ext (tY C x)))) { s1 with heap:=h6 }∧Ts H1 (upd H' x (.mZ oe (.ext (tY C x)))):=by
      intro h6 oe ws fl6 sm abM adL a2T
      have un6:=anB (P:=X.prog) (w:=X.w) fl cov a85 un fl6.stays sm
      have nx0:s0.heap.get? x=none:=by
        cases e0:s0.heap.get? x with
        | none=>rfl
        | some o =>
          by_cases hx:x∈frs X.stack
          · obtain ⟨_,o',ho',hd'⟩:=fl6.alI.mem (by rw [← hst];exact hx)
            rw [abM] at ho';cases ho'
            exact absurd a2T (hd' ws)
          · obtain ⟨o',ho'⟩:=a85 x o e0 hx
            rw [hxB] at ho';cases ho'
      have sn:Same H' (upd H' x (.mZ oe (.ext (tY C x)))):=bB nxH
      have nst:∀ b o,s0.heap.get? b=some o→b≠x:=fun b o e z=>by subst z;rw [nx0] at e;cases e
      have un7:Un (frs X.stack) [] H1 (upd H' x (.mZ oe (.ext (tY C x)))) s0.heap h6:=⟨un6.keep,un6.slot,fun b o e n hx=>by rw [aK (nst b o e)];exact un6.free b o e n hx,un6.there,fun b xs z=>sn _ _ (un6.tups b xs z),fun b o u z=>sn _ _ (un6.d9 b o u z),fun b ps z=>by
        obtain ⟨m,e⟩:=un6.jO b ps z
        exact ⟨m,sn _ _ e⟩⟩
      have awS:nR X.prog X.w (upd H' x (.mZ oe (.ext (tY C x)))) h6:=fun b o e=>by
        by_cases hb:b=x
        · subst hb
          rw [aJ] at e;cases e
          refine ⟨abM,⟨oe,ws,abM,adL,a2T⟩,⟨oe,abM⟩,fun h1 h2 ⟨o1,w1,e1,e2,e3⟩ k=>⟨o1,w1,k _ e1,e2,e3⟩⟩
        · rw [aK hb] at e
          exact ((hok.kept fl6.stays) b o e).stay (fun _ _ _ z=>z) (fun c z=>sn _ _ z) fun c xs z=>sn _ _ z
      exact ⟨J1.call' (ch:=[]) (s':={ s1 with heap:=h6 }) os un7 awS bare (fun b z=>absurd z (by simp)),un7.tups,un7.d9⟩
    obtain ⟨oe,ws5,hoe,hoec,hoed,awT⟩:=fl5.fld
    obtain ⟨J5,_⟩:=track h5 oe ws5 fl5 (sm4.trans sm5) hoe hoec hoed
    refine wpAny_handleBy_cons (codeAny_handlers_test ?_) (by intro q;cases q)
    refine fU (X:=abL X x) (a9L J5 x (.inr ⟨x,oe,_,ws5,rfl,aJ,hoed,awT⟩)) hg hm ?_ hd
    refine awO (K:=X.K) J5.xV hoe hoec hc ht hbx hsub ?_
    refine codeAny_handlers_suite_as ?_
    refine z6 fl5 fun h6 fl6 sm6=>?_
    obtain ⟨oe6,ws,abM,adL,a2T,akP⟩:=fl6.fld
    obtain ⟨J7,tt⟩:=track h6 oe6 ws fl6 ((sm4.trans sm5).trans sm6) abM adL a2T
    have gx:G' x=none:=lQ (K:=X.K) g' nxH (rK (X:=X) J7)
    refine v9 (X:=abL X x) (a9L J7 x (.inr ⟨x,oe6,_,ws,rfl,aJ,a2T,akP⟩)) hN hi (.inl hl) (v := .ref x) (u := .ref x) rfl (fun s8 J8=>?_) (.inr hl)
    have q8:=hth x gx
    refine wpAny_mono (hh x pins s8 _ _ { nx:=fun σ2 H2=>F.nx (wZ σ2 i) H2,rt:=F.rt,bk:=fun σ2 H2=>F.bk (wZ σ2 i) H2,ct:=fun σ2 H2=>F.ct (wZ σ2 i) H2 } J8
      ⟨tW ρ1 i (.ref x),aL G' x (.z9 C),_,(sr1.mono tt).set (.ref x) i,g'.put (u := .z9 C) nxH ⟨oe6,ws,aJ,a2T,akP⟩,q8,⟨fun ρ2 G2 σ2 H2 s2 g2 z=>d.nx _ G2 _ H2 (s2.clr i) g2 z,d.rt,fun ρ2 G2 σ2 H2 s2 g2 z=>d.bk _ G2 _ H2 (s2.clr i) g2 z,fun ρ2 G2 σ2 H2 s2 g2 z=>d.ct _ G2 _ H2 (s2.clr i) g2 z⟩⟩) (fun f s9 q9=>?_) fun _ _ z=>z.elim
    cases f with
    | next=>obtain ⟨σ2,H2,I2,z⟩:=q9;exact zB (tK J7.ok hn I2) hN hi hl fun s10 I10=>⟨_,H2,I10,z⟩
    | brk=>obtain ⟨σ2,H2,I2,z⟩:=q9;exact zB (tK J7.ok hn I2) hN hi hl fun s10 I10=>⟨_,H2,I10,z⟩
    | cont=>obtain ⟨σ2,H2,I2,z⟩:=q9;exact zB (tK J7.ok hn I2) hN hi hl fun s10 I10=>⟨_,H2,I10,z⟩
    | ret u=>obtain ⟨v,σ2,H2,I2,r2,z⟩:=q9;exact zB (tK J7.ok hn I2) hN hi hl fun s10 I10=>⟨v,_,H2,I10,r2,z⟩
end
end L2
namespace L2
open PySem PySem.Spec PyProof.Rows
section
variable {X:Cx} {a b c:Expr} {ta tb tc:cB} {pos:Pos}
def a9M (t:cB):cB:=fun ρ G R=>t ρ G fun x G1=>match x with
  | .int i=>R (.int (-i)) G1
  | _=>False
theorem asG (ha:cI X a ta):cI X (.UnaryOp .USub a pos) (a9M ta):=PE.imp (aqM am9 ha) fun σ H Q h=>by
  obtain ⟨ρ,G,R,s,g,t,k⟩:=h
  refine ⟨ρ,G,_,s,g,t,fun v H1 x G1 t1 r g1 q=>?_⟩
  cases r with
  | int i=>exact ⟨i,rfl,k _ H1 _ G1 t1 (.int _) g1 q⟩
  | _=>exact False.elim q
def aM:Nat→D→Bool
  | 0,.tup _=>false
  | n+1,.tup xs=>xs.all (aM n)
  | _,.ref _=>false
  | _,.ty _=>false
  | _,_=>true
mutual
def eqP:D→D→Bool
  | .non,.non=>true
  | .bl a,.bl b=>a == b
  | .bl a,.int b=>(if a then 1 else 0) == b
  | .int a,.bl b=>a == (if b then 1 else 0)
  | .int a,.int b=>a == b
  | .str a,.str b=>a == b
  | .tup xs,.tup ys=>jE xs ys
  | _,_=>false
def jE:List D→List D→Bool
  | [],[]=>true
  | x :: xs,y :: ys=>eqP x y&&jE xs ys
  | _,_=>false
end
def pQ (xs ys:List D) (j:Nat):Bool:=match xs[j]?,ys[j]? with
  | some a,some b=>eqP a b
  | _,_=>false
theorem zY (n:Nat) (e:Nat→Bool):(List.range (n+1)).all e=(e 0&&(List.range n).all fun j=>e (j+1)):=by
  rw [List.range_succ_eq_map,List.all_cons,List.all_map];rfl
theorem iI:∀ (xs ys:List D),jE xs ys=((List.range (min xs.length ys.length)).all (pQ xs ys)&&xs.length == ys.length)
  | [],[]=>rfl
  | [],y :: ys=>by simp [jE]
  | x :: xs,[]=>by simp [jE]
  | x :: xs,y :: ys=>by
    have ih:=iI xs ys
    have e:min (x :: xs).length (y :: ys).length=min xs.length ys.length+1:=by simp only [List.length_cons];omega
    rw [jE,ih,e,zY]
    have e0:pQ (x :: xs) (y :: ys) 0=eqP x y:=rfl
    have e1:(fun j=>pQ (x :: xs) (y :: ys) (j+1))=pQ xs ys:=by
      funext j
      simp [pQ]
    have e2:((x :: xs).length == (y :: ys).length)=(xs.length == ys.length):=by
      simp only [List.length_cons]
      by_cases h:xs.length=ys.length
      · simp [h]
      · have h':¬ (xs.length+1=ys.length+1):=by omega
        simp [h,h']
    rw [e0,e1,e2,Bool.and_assoc]
theorem a6I {xs ys:List D} (h:(xs.length != ys.length)=true):jE xs ys=false:=by
  rw [iI]
  have:(xs.length == ys.length)=false:=by simpa using h
  rw [this,Bool.and_false]
theorem a2U {xs ys:List D} (h:xs.length=ys.length):jE xs ys=(List.range xs.length).all (pQ xs ys):=by
  rw [iI,h]
  simp
mutual
theorem RD.inj {pins:List (Addr×Obj)} {σ:St} {H:Hp} {s:Shared} (I:Inv X pins σ H s):∀ {n:Nat} {x y:D} {v:V},aM n x=true→aM n y=true→RD X.K H x v→RD X.K H y v→x=y
  | _,_,_,_,_,_,.non,.non=>rfl
  | _,_,_,_,_,_,.bl _,.bl _=>rfl
  | _,_,_,_,_,_,.int _,.int _=>rfl
  | _,_,_,_,_,_,.str _,.str _=>rfl
  | _,_,_,_,hx,_,.ty _,.ty _=>rfl
  | _,_,_,_,_,_,.ref _,.ref _=>rfl
  | n,_,_,_,hx,_,.ref _,.tup _ _ _=>by cases n <;> simp [aM] at hx
  | n,_,_,_,_,hy,.tup _ _ _,.ref _=>by cases n <;> simp [aM] at hy
  | 0,_,_,_,hx,_,.tup _ _ _,.tup _ _ _=>by simp [aM] at hx
  | n+1,_,_,_,hx,hy,.tup h1 r1 _,.tup h2 r2 _=>by
    have e:=I.wN h1 h2
    subst e
    rw [bM.inj I (n:=n) (by simpa [aM] using hx) (by simpa [aM] using hy) r1 r2]
theorem bM.inj {pins:List (Addr×Obj)} {σ:St} {H:Hp} {s:Shared} (I:Inv X pins σ H s):∀ {n:Nat} {xs ys:List D} {vs:List V},(∀ x∈xs,aM n x=true)→(∀ y∈ys,aM n y=true)→bM X.K H xs vs→bM X.K H ys vs→xs=ys
  | _,_,_,_,_,_,.nil,.nil=>rfl
  | n,_,_,_,hx,hy,.cons h1 r1,.cons h2 r2=>by
    rw [RD.inj I (hx _ (by simp)) (hy _ (by simp)) h1 h2,bM.inj I (fun x m=>hx x (by simp [m])) (fun y m=>hy y (by simp [m])) r1 r2]
end
mutual
theorem a6J:∀ {n:Nat} {x:D},aM n x=true→eqP x x=true
  | _,.non,_=>rfl
  | _,.bl b,_=>by simp [eqP]
  | _,.int b,_=>by simp [eqP]
  | _,.str b,_=>by simp [eqP]
  | n,.ref _,h=>by cases n <;> simp [aM] at h
  | n,.ty _,h=>by cases n <;> simp [aM] at h
  | 0,.tup _,h=>by simp [aM] at h
  | n+1,.tup xs,h=>by rw [eqP];exact a2V (n:=n) (by simpa [aM] using h)
theorem a2V:∀ {n:Nat} {xs:List D},(∀ x∈xs,aM n x=true)→jE xs xs=true
  | _,[],_=>rfl
  | n,x :: xs,h=>by rw [jE,a6J (h x (by simp)),a2V fun y m=>h y (by simp [m])];rfl
end
theorem Vals.akQ {K:Fg} {H:Hp} {ds:List D} {xs:List V} {us:List Value} (r:bM K H ds xs) (v:Vals xs us) {j:Nat} {u:Value} (e:us[j]?=some u):∃ d x,ds[j]?=some d∧RD K H d x∧RelV x u:=by
  have hj:j < us.length:=(List.getElem?_eq_some_iff.mp e).1
  have hj':j < xs.length:=by rw [v.length];exact hj
  have ex:xs[j]?=some xs[j]:=List.getElem?_eq_getElem hj'
  obtain ⟨u',e1,r1⟩:=v.get ex
  rw [e] at e1;cases e1
  obtain ⟨d,e2,r2⟩:=r.ahM ex
  exact ⟨d,_,e2,r2,r1⟩
theorem rN {A:Around} {s:Shared} {K:Fg} {H:Hp} {n:Nat} {xs ys:List D} {vx vy:List V} {us ws:List Value} (rx:bM K H xs vx) (ry:bM K H ys vy) (vx':Vals vx us) (vy':Vals vy ws)
    (ih:∀ x∈xs,∀ y∈ys,∀ (v w:V) (u t:Value),RD K H x v→RD K H y w→RelV v u→RelV w t→SeqAt.EqAt A s u t (eqP x y)) :
    ∀ j (h1:j < us.toArray.size) (h2:j < ws.toArray.size),SeqAt.EqAt A s us.toArray[j] ws.toArray[j] (pQ xs ys j):=by
  intro j h1 h2
  have e1:us[j]?=some us.toArray[j]:=by simp [List.getElem?_eq_getElem (show j < us.length by simpa using h1)]
  have e2:ws[j]?=some ws.toArray[j]:=by simp [List.getElem?_eq_getElem (show j < ws.length by simpa using h2)]
  obtain ⟨d,x,f1,f2,f3⟩:=Vals.akQ rx vx' e1
  obtain ⟨d',y,g1,g2,g3⟩:=Vals.akQ ry vy' e2
  have e:pQ xs ys j=eqP d d':=by simp [pQ,f1,g1]
  rw [e]
  exact ih d (List.mem_of_getElem? f1) d' (List.mem_of_getElem? g1) x y _ _ f2 g2 f3 g3
def scD:D→Bool
  | .non=>true
  | .bl _=>true
  | .int _=>true
  | .str _=>true
  | _=>false
theorem ai1 {A:Around} {s:Shared} {K:Fg} {H:Hp} {x y:D} {vx vy:V} {u v:Value} (hx:scD x=true) (hy:scD y=true) (rx:RD K H x vx) (ry:RD K H y vy) (ru:RelV vx u) (rv:RelV vy v):SeqAt.EqAt A s u v (eqP x y):=by
  have fx:qT vx=true:=by cases rx <;> first | rfl | cases hx
  have fy:qT vy=true:=by cases ry <;> first | rfl | cases hy
  have e:eqV vx vy=eqP x y:=by cases rx <;> cases ry <;> first | (simp [eqV,eqP];done) | cases hx | cases hy
  rw [← e]
  exact wW ru rv fx fy
theorem rO {A:Around} {n:Nat} (h:A.units+(n+1) < cLine):A.in1.units+n < cLine:=by
  show A.units+1+n < cLine
  omega
theorem a4K {pins:List (Addr×Obj)} {σ:St} {H:Hp} {s:Shared} (I:Inv X pins σ H s):∀ (n:Nat) (A:Around) (x y:D) (vx vy:V) (u v:Value),A.units+n < cLine→aM n x=true→aM n y=true→RD X.K H x vx→RD X.K H y vy→RelV vx u→RelV vy v→SeqAt.EqAt A s u v (eqP x y):=by
  intro n
  induction n with
  | zero =>
    intro A x y vx vy u v hu hx hy rx ry ru rv
    have sx:scD x=true:=by cases x <;> first | rfl | (simp [aM] at hx)
    have sy:scD y=true:=by cases y <;> first | rfl | (simp [aM] at hy)
    exact ai1 sx sy rx ry ru rv
  | succ n ih =>
    intro A x y vx vy u v hu hx hy rx ry ru rv
    have hu0:A.units < cLine:=by omega
    cases rx with
    | @tup ax xs ds hax rax eax =>
      cases ru
      obtain ⟨its,vv,px,_⟩:=I.tuple hax
      cases ry with
      | @tup ay ys es hay ray eay =>
        cases rv
        obtain ⟨jts,ww,py,_⟩:=I.tuple hay
        by_cases hab:ax=ay
        · subst hab
          have e:=RD.inj I (n:=n+1) hx hy (.tup hax rax eax) (.tup hay ray eay)
          rw [e,a6J hy]
          exact SeqAt.EqAt.same _
        · refine SeqAt.EqAt.of_refs hab ?_
          have z:=SeqAt.RcAt.tuples (e:=pQ ds es) (show s.heap.IsTuple ax its.toArray from px) (show s.heap.IsTuple ay jts.toArray from py) hu0 (rN (n:=n) rax ray vv ww fun x mx y my v w u t r1 r2 r3 r4 =>
            ih A.in1 x y v w u t (rO hu) (List.all_eq_true.mp (by simpa [aM] using hx) x mx) (List.all_eq_true.mp (by simpa [aM] using hy) y my) r1 r2 r3 r4)
          have e:((List.range (min its.toArray.size jts.toArray.size)).all (pQ ds es)&&its.toArray.size == jts.toArray.size)=eqP (.tup ds) (.tup es):=by
            rw [eqP,iI,List.size_toArray,List.size_toArray,← vv.length,← ww.length,← rax.length,← ray.length]
          rw [e] at z
          exact z
      | non=>cases rv;exact SeqAt.EqAt.tuple_none (show s.heap.IsTuple ax its.toArray from px) hu0
      | bl b=>cases rv;exact SeqAt.EqAt.tuple_bool b (show s.heap.IsTuple ax its.toArray from px) hu0
      | int i=>obtain ⟨t,rfl⟩:=rv;exact SeqAt.EqAt.tuple_int i t (show s.heap.IsTuple ax its.toArray from px) hu0
      | str z=>obtain ⟨t,rfl⟩:=rv;exact SeqAt.EqAt.tuple_str z t (show s.heap.IsTuple ax its.toArray from px) hu0
      | ref _=>simp [aM] at hy
      | ty _=>simp [aM] at hy
    | ref _=>simp [aM] at hx
    | ty _=>simp [aM] at hx
    | non =>
      cases ry with
      | @tup ay ys es hay ray =>
        cases rv;cases ru
        obtain ⟨jts,ww,py,_⟩:=I.tuple hay
        exact SeqAt.EqAt.none_tuple (show s.heap.IsTuple ay jts.toArray from py) hu0
      | ref _=>simp [aM] at hy
      | ty _=>simp [aM] at hy
      | _=>exact wW ru rv rfl rfl
    | bl b =>
      cases ry with
      | @tup ay ys es hay ray =>
        cases rv;cases ru
        obtain ⟨jts,ww,py,_⟩:=I.tuple hay
        exact SeqAt.EqAt.bool_tuple b (show s.heap.IsTuple ay jts.toArray from py) hu0
      | ref _=>simp [aM] at hy
      | ty _=>simp [aM] at hy
      | _=>exact wW ru rv rfl rfl
    | int i =>
      cases ry with
      | @tup ay ys es hay ray =>
        cases rv;obtain ⟨t,rfl⟩:=ru
        obtain ⟨jts,ww,py,_⟩:=I.tuple hay
        exact SeqAt.EqAt.int_tuple i t (show s.heap.IsTuple ay jts.toArray from py) hu0
      | ref _=>simp [aM] at hy
      | ty _=>simp [aM] at hy
      | _=>exact wW ru rv rfl rfl
    | str z =>
      cases ry with
      | @tup ay ys es hay ray =>
        cases rv;obtain ⟨t,rfl⟩:=ru
        obtain ⟨jts,ww,py,_⟩:=I.tuple hay
        exact SeqAt.EqAt.str_tuple z t (show s.heap.IsTuple ay jts.toArray from py) hu0
      | ref _=>simp [aM] at hy
      | ty _=>simp [aM] at hy
      | _=>exact wW ru rv rfl rfl
end
end L2
namespace L2
open PySem PySem.Spec PyProof.Rows
section
variable {X:Cx}
theorem awW {pins:List (Addr×Obj)} {σ:St} {H:Hp} {s:Shared} (I:Inv X pins σ H s) (n:Nat) (A:Around) (x y:D) (vx vy:V) (u v:Value) (hu:A.units+(n+1) < cLine) (hx:aM (n+1) x=true) (hy:aM (n+1) y=true) (rx:RD X.K H x vx) (ry:RD X.K H y vy) (ru:RelV vx u) (rv:RelV vy v):SeqAt.RcAt A s u v (eqP x y):=by
  have hu0:A.units < cLine:=by omega
  cases rx with
  | non =>
    cases ru
    cases ry with
    | non =>
      cases rv
      first | exact SeqAt.RcAt.none_none | (simp only [eqP];exact SeqAt.RcAt.none_none)
    | bl b2 =>
      cases rv
      first | exact SeqAt.RcAt.none_bool b2 | (simp only [eqP];exact SeqAt.RcAt.none_bool b2)
    | int i2 =>
      obtain ⟨t2,rfl⟩:=rv
      first | exact SeqAt.RcAt.none_int i2 t2 | (simp only [eqP];exact SeqAt.RcAt.none_int i2 t2)
    | str z2 =>
      obtain ⟨t2,rfl⟩:=rv
      first | exact SeqAt.RcAt.none_str z2 t2 | (simp only [eqP];exact SeqAt.RcAt.none_str z2 t2)
    | @tup a2 xs2 oE h2 r2 =>
      cases rv
      obtain ⟨its2,yR,p2,_⟩:=I.tuple h2
      first | exact SeqAt.RcAt.none_tuple (show s.heap.IsTuple a2 its2.toArray from p2) hu0 | (simp only [eqP];exact SeqAt.RcAt.none_tuple (show s.heap.IsTuple a2 its2.toArray from p2) hu0)
    | ref _=>simp [aM] at hy
    | ty _=>simp [aM] at hy
  | bl b1 =>
    cases ru
    cases ry with
    | non =>
      cases rv
      first | exact SeqAt.RcAt.bool_none b1 | (simp only [eqP];exact SeqAt.RcAt.bool_none b1)
    | bl b2 =>
      cases rv
      first | exact SeqAt.RcAt.bool_bool b1 b2 | (simp only [eqP];exact SeqAt.RcAt.bool_bool b1 b2)
    | int i2 =>
      obtain ⟨t2,rfl⟩:=rv
      first | exact SeqAt.RcAt.bool_int b1 i2 t2 | (simp only [eqP];exact SeqAt.RcAt.bool_int b1 i2 t2)
    | str z2 =>
      obtain ⟨t2,rfl⟩:=rv
      first | exact SeqAt.RcAt.bool_str b1 z2 t2 | (simp only [eqP];exact SeqAt.RcAt.bool_str b1 z2 t2)
    | @tup a2 xs2 oE h2 r2 =>
      cases rv
      obtain ⟨its2,yR,p2,_⟩:=I.tuple h2
      first | exact SeqAt.RcAt.bool_tuple b1 (show s.heap.IsTuple a2 its2.toArray from p2) hu0 | (simp only [eqP];exact SeqAt.RcAt.bool_tuple b1 (show s.heap.IsTuple a2 its2.toArray from p2) hu0)
    | ref _=>simp [aM] at hy
    | ty _=>simp [aM] at hy
  | int i1 =>
    obtain ⟨t1,rfl⟩:=ru
    cases ry with
    | non =>
      cases rv
      first | exact SeqAt.RcAt.int_none i1 t1 | (simp only [eqP];exact SeqAt.RcAt.int_none i1 t1)
    | bl b2 =>
      cases rv
      first | exact SeqAt.RcAt.int_bool i1 t1 b2 | (simp only [eqP];exact SeqAt.RcAt.int_bool i1 t1 b2)
    | int i2 =>
      obtain ⟨t2,rfl⟩:=rv
      first | exact SeqAt.RcAt.int_int i1 t1 i2 t2 | (simp only [eqP];exact SeqAt.RcAt.int_int i1 t1 i2 t2)
    | str z2 =>
      obtain ⟨t2,rfl⟩:=rv
      first | exact SeqAt.RcAt.int_str i1 t1 z2 t2 | (simp only [eqP];exact SeqAt.RcAt.int_str i1 t1 z2 t2)
    | @tup a2 xs2 oE h2 r2 =>
      cases rv
      obtain ⟨its2,yR,p2,_⟩:=I.tuple h2
      first | exact SeqAt.RcAt.int_tuple i1 t1 (show s.heap.IsTuple a2 its2.toArray from p2) hu0 | (simp only [eqP];exact SeqAt.RcAt.int_tuple i1 t1 (show s.heap.IsTuple a2 its2.toArray from p2) hu0)
    | ref _=>simp [aM] at hy
    | ty _=>simp [aM] at hy
  | str z1 =>
    obtain ⟨t1,rfl⟩:=ru
    cases ry with
    | non =>
      cases rv
      first | exact SeqAt.RcAt.str_none z1 t1 | (simp only [eqP];exact SeqAt.RcAt.str_none z1 t1)
    | bl b2 =>
      cases rv
      first | exact SeqAt.RcAt.str_bool z1 t1 b2 | (simp only [eqP];exact SeqAt.RcAt.str_bool z1 t1 b2)
    | int i2 =>
      obtain ⟨t2,rfl⟩:=rv
      first | exact SeqAt.RcAt.str_int z1 t1 i2 t2 | (simp only [eqP];exact SeqAt.RcAt.str_int z1 t1 i2 t2)
    | str z2 =>
      obtain ⟨t2,rfl⟩:=rv
      first | exact SeqAt.RcAt.str_str z1 t1 z2 t2 | (simp only [eqP];exact SeqAt.RcAt.str_str z1 t1 z2 t2)
    | @tup a2 xs2 oE h2 r2 =>
      cases rv
      obtain ⟨its2,yR,p2,_⟩:=I.tuple h2
      first | exact SeqAt.RcAt.str_tuple z1 t1 (show s.heap.IsTuple a2 its2.toArray from p2) hu0 | (simp only [eqP];exact SeqAt.RcAt.str_tuple z1 t1 (show s.heap.IsTuple a2 its2.toArray from p2) hu0)
    | ref _=>simp [aM] at hy
    | ty _=>simp [aM] at hy
  | @tup a1 xs1 xA h1 r1 =>
    cases ru
    obtain ⟨dD,vv1,p1,_⟩:=I.tuple h1
    cases ry with
    | non =>
      cases rv
      first | exact SeqAt.RcAt.tuple_none (show s.heap.IsTuple a1 dD.toArray from p1) hu0 | (simp only [eqP];exact SeqAt.RcAt.tuple_none (show s.heap.IsTuple a1 dD.toArray from p1) hu0)
    | bl b2 =>
      cases rv
      first | exact SeqAt.RcAt.tuple_bool b2 (show s.heap.IsTuple a1 dD.toArray from p1) hu0 | (simp only [eqP];exact SeqAt.RcAt.tuple_bool b2 (show s.heap.IsTuple a1 dD.toArray from p1) hu0)
    | int i2 =>
      obtain ⟨t2,rfl⟩:=rv
      first | exact SeqAt.RcAt.tuple_int i2 t2 (show s.heap.IsTuple a1 dD.toArray from p1) hu0 | (simp only [eqP];exact SeqAt.RcAt.tuple_int i2 t2 (show s.heap.IsTuple a1 dD.toArray from p1) hu0)
    | str z2 =>
      obtain ⟨t2,rfl⟩:=rv
      first | exact SeqAt.RcAt.tuple_str z2 t2 (show s.heap.IsTuple a1 dD.toArray from p1) hu0 | (simp only [eqP];exact SeqAt.RcAt.tuple_str z2 t2 (show s.heap.IsTuple a1 dD.toArray from p1) hu0)
    | @tup a2 xs2 oE h2 r2 =>
      cases rv
      obtain ⟨its2,yR,p2,_⟩:=I.tuple h2
      have z:=SeqAt.RcAt.tuples (e:=pQ xA oE) (show s.heap.IsTuple a1 dD.toArray from p1) (show s.heap.IsTuple a2 its2.toArray from p2) hu0 (rN (n:=n) r1 r2 vv1 yR fun x mx y my v w u t q1 q2 q3 q4 =>
            a4K I n A.in1 x y v w u t (rO hu) (List.all_eq_true.mp (by simpa [aM] using hx) x mx) (List.all_eq_true.mp (by simpa [aM] using hy) y my) q1 q2 q3 q4)
      have e:((List.range (min dD.toArray.size its2.toArray.size)).all (pQ xA oE)&&dD.toArray.size == its2.toArray.size)=eqP (.tup xA) (.tup oE):=by
        rw [eqP,iI,List.size_toArray,List.size_toArray,← vv1.length,← yR.length,← r1.length,← r2.length]
      rw [e] at z
      exact z
    | ref _=>simp [aM] at hy
    | ty _=>simp [aM] at hy
  | ref _=>simp [aM] at hx
  | ty _=>simp [aM] at hx
theorem awX {pins:List (Addr×Obj)} {σ:St} {H:Hp} {s:Shared} (I:Inv X pins σ H s) (n:Nat) (A:Around) {a1:Addr} {xs:List V} (hl:tX X.K H a1 xs) (y:D) (vy:V) (v:Value) (hu0:A.units < cLine) (hy:aM n y=true) (ry:RD X.K H y vy) (rv:RelV vy v):SeqAt.RcAt A s (.ref a1) v false:=by
  obtain ⟨dD,vv1,pl,_⟩:=I.list hl
  have p1:=pl.isList
  cases ry with
  | non =>
    cases rv
    exact SeqAt.RcAt.list_none p1 hu0
  | bl b2 =>
    cases rv
    exact SeqAt.RcAt.list_bool b2 p1 hu0
  | int i2 =>
    obtain ⟨t2,rfl⟩:=rv
    exact SeqAt.RcAt.list_int i2 t2 p1 hu0
  | str z2 =>
    obtain ⟨t2,rfl⟩:=rv
    exact SeqAt.RcAt.list_str z2 t2 p1 hu0
  | @tup a2 xs2 oE h2 r2 =>
    cases rv
    obtain ⟨its2,yR,p2,_⟩:=I.tuple h2
    exact SeqAt.RcAt.list_tuple (show s.heap.IsList a1 dD.toArray from p1) (show s.heap.IsTuple a2 its2.toArray from p2) hu0
  | ref _=>cases n <;> simp [aM] at hy
  | ty _=>cases n <;> simp [aM] at hy
theorem awY {pins:List (Addr×Obj)} {σ:St} {H:Hp} {s:Shared} (I:Inv X pins σ H s) (n:Nat) (A:Around) {a2:Addr} {xs:List V} (hl:tX X.K H a2 xs) (y:D) (vy:V) (v:Value) (hu0:A.units < cLine) (hy:aM n y=true) (ry:RD X.K H y vy) (rv:RelV vy v):SeqAt.RcAt A s v (.ref a2) false:=by
  obtain ⟨its2,yR,pl,_⟩:=I.list hl
  have p2:=pl.isList
  cases ry with
  | non =>
    cases rv
    exact SeqAt.RcAt.none_list p2 hu0
  | bl b1 =>
    cases rv
    exact SeqAt.RcAt.bool_list b1 p2 hu0
  | int i1 =>
    obtain ⟨t1,rfl⟩:=rv
    exact SeqAt.RcAt.int_list i1 t1 p2 hu0
  | str z1 =>
    obtain ⟨t1,rfl⟩:=rv
    exact SeqAt.RcAt.str_list z1 t1 p2 hu0
  | @tup a1 xs1 xA h1 r1 =>
    cases rv
    obtain ⟨dD,vv1,p1,_⟩:=I.tuple h1
    exact SeqAt.RcAt.tuple_list (show s.heap.IsTuple a1 dD.toArray from p1) (show s.heap.IsList a2 its2.toArray from p2) hu0
  | ref _=>cases n <;> simp [aM] at hy
  | ty _=>cases n <;> simp [aM] at hy
theorem awZ {pins:List (Addr×Obj)} {σ:St} {H:Hp} {s:Shared} (I:Inv X pins σ H s) (n:Nat) (A:Around) {a1 a2:Addr} {xs1 xs2:List V} {xA oE:List D} (h1:tX X.K H a1 xs1) (h2:tX X.K H a2 xs2) (r1:bM X.K H xA xs1) (r2:bM X.K H oE xs2)
    (hu:A.units+(n+1) < cLine) (hx:xA.all (aM n)=true) (hy:oE.all (aM n)=true):SeqAt.RcAt A s (.ref a1) (.ref a2) (jE xA oE):=by
  have hu0:A.units < cLine:=by omega
  obtain ⟨dD,vv1,q1,_⟩:=I.list h1
  obtain ⟨its2,yR,q2,_⟩:=I.list h2
  have p1:=q1.isList
  have p2:=q2.isList
  by_cases hl:xA.length=oE.length
  · have hsz:dD.toArray.size=its2.toArray.size:=by rw [List.size_toArray,List.size_toArray,← vv1.length,← yR.length,← r1.length,← r2.length];exact hl
    have z:=SeqAt.RcAt.lists (e:=pQ xA oE) p1 p2 hsz hu0 (rN (n:=n) r1 r2 vv1 yR fun x mx y my v w u t q1 q2 q3 q4 =>
            a4K I n A.in1 x y v w u t (rO hu) (List.all_eq_true.mp hx x mx) (List.all_eq_true.mp hy y my) q1 q2 q3 q4)
    have e:(List.range dD.toArray.size).all (pQ xA oE)=jE xA oE:=by rw [a2U hl,List.size_toArray,← vv1.length,← r1.length]
    rw [e] at z
    exact z
  · have hne:(dD.toArray.size != its2.toArray.size)=true:=by rw [List.size_toArray,List.size_toArray,← vv1.length,← yR.length,← r1.length,← r2.length];simpa using hl
    have e:jE xA oE=false:=a6I (by simpa using hl)
    rw [e]
    exact SeqAt.RcAt.lists_lengths p1 p2 hne hu0
theorem anE {pins:List (Addr×Obj)} {σ:St} {H:Hp} {s:Shared} (I:Inv X pins σ H s) (n:Nat) (A:Around) (x y:D) (vx vy:V) (u v:Value) (hu:A.units+(n+1) < cLine) (hx:aM (n+1) x=true) (hy:aM (n+1) y=true) (rx:RD X.K H x vx) (ry:RD X.K H y vy) (ru:RelV vx u) (rv:RelV vy v):SeqAt.RcNeAt A s u v (!eqP x y):=by
  have hu0:A.units < cLine:=by omega
  cases rx with
  | non =>
    cases ru
    cases ry with
    | non =>
      cases rv
      first | exact SeqAt.RcNeAt.none_none | (simp only [eqP];exact SeqAt.RcNeAt.none_none)
    | bl b2 =>
      cases rv
      first | exact SeqAt.RcNeAt.none_bool b2 | (simp only [eqP];exact SeqAt.RcNeAt.none_bool b2)
    | int i2 =>
      obtain ⟨t2,rfl⟩:=rv
      first | exact SeqAt.RcNeAt.none_int i2 t2 | (simp only [eqP];exact SeqAt.RcNeAt.none_int i2 t2)
    | str z2 =>
      obtain ⟨t2,rfl⟩:=rv
      first | exact SeqAt.RcNeAt.none_str z2 t2 | (simp only [eqP];exact SeqAt.RcNeAt.none_str z2 t2)
    | @tup a2 xs2 oE h2 r2 =>
      cases rv
      obtain ⟨its2,yR,p2,_⟩:=I.tuple h2
      first | exact SeqAt.RcNeAt.none_tuple (show s.heap.IsTuple a2 its2.toArray from p2) hu0 | (simp only [eqP];exact SeqAt.RcNeAt.none_tuple (show s.heap.IsTuple a2 its2.toArray from p2) hu0)
    | ref _=>simp [aM] at hy
    | ty _=>simp [aM] at hy
  | bl b1 =>
    cases ru
    cases ry with
    | non =>
      cases rv
      first | exact SeqAt.RcNeAt.bool_none b1 | (simp only [eqP];exact SeqAt.RcNeAt.bool_none b1)
    | bl b2 =>
      cases rv
      first | exact SeqAt.RcNeAt.bool_bool b1 b2 | (simp only [eqP];exact SeqAt.RcNeAt.bool_bool b1 b2)
    | int i2 =>
      obtain ⟨t2,rfl⟩:=rv
      first | exact SeqAt.RcNeAt.bool_int b1 i2 t2 | (simp only [eqP];exact SeqAt.RcNeAt.bool_int b1 i2 t2)
    | str z2 =>
      obtain ⟨t2,rfl⟩:=rv
      first | exact SeqAt.RcNeAt.bool_str b1 z2 t2 | (simp only [eqP];exact SeqAt.RcNeAt.bool_str b1 z2 t2)
    | @tup a2 xs2 oE h2 r2 =>
      cases rv
      obtain ⟨its2,yR,p2,_⟩:=I.tuple h2
      first | exact SeqAt.RcNeAt.bool_tuple b1 (show s.heap.IsTuple a2 its2.toArray from p2) hu0 | (simp only [eqP];exact SeqAt.RcNeAt.bool_tuple b1 (show s.heap.IsTuple a2 its2.toArray from p2) hu0)
    | ref _=>simp [aM] at hy
    | ty _=>simp [aM] at hy
  | int i1 =>
    obtain ⟨t1,rfl⟩:=ru
    cases ry with
    | non =>
      cases rv
      first | exact SeqAt.RcNeAt.int_none i1 t1 | (simp only [eqP];exact SeqAt.RcNeAt.int_none i1 t1)
    | bl b2 =>
      cases rv
      first | exact SeqAt.RcNeAt.int_bool i1 t1 b2 | (simp only [eqP];exact SeqAt.RcNeAt.int_bool i1 t1 b2)
    | int i2 =>
      obtain ⟨t2,rfl⟩:=rv
      first | exact SeqAt.RcNeAt.int_int i1 t1 i2 t2 | (simp only [eqP];exact SeqAt.RcNeAt.int_int i1 t1 i2 t2)
    | str z2 =>
      obtain ⟨t2,rfl⟩:=rv
      first | exact SeqAt.RcNeAt.int_str i1 t1 z2 t2 | (simp only [eqP];exact SeqAt.RcNeAt.int_str i1 t1 z2 t2)
    | @tup a2 xs2 oE h2 r2 =>
      cases rv
      obtain ⟨its2,yR,p2,_⟩:=I.tuple h2
      first | exact SeqAt.RcNeAt.int_tuple i1 t1 (show s.heap.IsTuple a2 its2.toArray from p2) hu0 | (simp only [eqP];exact SeqAt.RcNeAt.int_tuple i1 t1 (show s.heap.IsTuple a2 its2.toArray from p2) hu0)
    | ref _=>simp [aM] at hy
    | ty _=>simp [aM] at hy
  | str z1 =>
    obtain ⟨t1,rfl⟩:=ru
    cases ry with
    | non =>
      cases rv
      first | exact SeqAt.RcNeAt.str_none z1 t1 | (simp only [eqP];exact SeqAt.RcNeAt.str_none z1 t1)
    | bl b2 =>
      cases rv
      first | exact SeqAt.RcNeAt.str_bool z1 t1 b2 | (simp only [eqP];exact SeqAt.RcNeAt.str_bool z1 t1 b2)
    | int i2 =>
      obtain ⟨t2,rfl⟩:=rv
      first | exact SeqAt.RcNeAt.str_int z1 t1 i2 t2 | (simp only [eqP];exact SeqAt.RcNeAt.str_int z1 t1 i2 t2)
    | str z2 =>
      obtain ⟨t2,rfl⟩:=rv
      first | exact SeqAt.RcNeAt.str_str z1 t1 z2 t2 | (simp only [eqP];exact SeqAt.RcNeAt.str_str z1 t1 z2 t2)
    | @tup a2 xs2 oE h2 r2 =>
      cases rv
      obtain ⟨its2,yR,p2,_⟩:=I.tuple h2
      first | exact SeqAt.RcNeAt.str_tuple z1 t1 (show s.heap.IsTuple a2 its2.toArray from p2) hu0 | (simp only [eqP];exact SeqAt.RcNeAt.str_tuple z1 t1 (show s.heap.IsTuple a2 its2.toArray from p2) hu0)
    | ref _=>simp [aM] at hy
    | ty _=>simp [aM] at hy
  | @tup a1 xs1 xA h1 r1 =>
    cases ru
    obtain ⟨dD,vv1,p1,_⟩:=I.tuple h1
    cases ry with
    | non =>
      cases rv
      first | exact SeqAt.RcNeAt.tuple_none (show s.heap.IsTuple a1 dD.toArray from p1) hu0 | (simp only [eqP];exact SeqAt.RcNeAt.tuple_none (show s.heap.IsTuple a1 dD.toArray from p1) hu0)
    | bl b2 =>
      cases rv
      first | exact SeqAt.RcNeAt.tuple_bool b2 (show s.heap.IsTuple a1 dD.toArray from p1) hu0 | (simp only [eqP];exact SeqAt.RcNeAt.tuple_bool b2 (show s.heap.IsTuple a1 dD.toArray from p1) hu0)
    | int i2 =>
      obtain ⟨t2,rfl⟩:=rv
      first | exact SeqAt.RcNeAt.tuple_int i2 t2 (show s.heap.IsTuple a1 dD.toArray from p1) hu0 | (simp only [eqP];exact SeqAt.RcNeAt.tuple_int i2 t2 (show s.heap.IsTuple a1 dD.toArray from p1) hu0)
    | str z2 =>
      obtain ⟨t2,rfl⟩:=rv
      first | exact SeqAt.RcNeAt.tuple_str z2 t2 (show s.heap.IsTuple a1 dD.toArray from p1) hu0 | (simp only [eqP];exact SeqAt.RcNeAt.tuple_str z2 t2 (show s.heap.IsTuple a1 dD.toArray from p1) hu0)
    | @tup a2 xs2 oE h2 r2 =>
      cases rv
      obtain ⟨its2,yR,p2,_⟩:=I.tuple h2
      have z:=SeqAt.RcNeAt.tuples (e:=pQ xA oE) (show s.heap.IsTuple a1 dD.toArray from p1) (show s.heap.IsTuple a2 its2.toArray from p2) hu0 (rN (n:=n) r1 r2 vv1 yR fun x mx y my v w u t q1 q2 q3 q4 =>
            a4K I n A.in1 x y v w u t (rO hu) (List.all_eq_true.mp (by simpa [aM] using hx) x mx) (List.all_eq_true.mp (by simpa [aM] using hy) y my) q1 q2 q3 q4)
      have e:((List.range (min dD.toArray.size its2.toArray.size)).all (pQ xA oE)&&dD.toArray.size == its2.toArray.size)=eqP (.tup xA) (.tup oE):=by
        rw [eqP,iI,List.size_toArray,List.size_toArray,← vv1.length,← yR.length,← r1.length,← r2.length]
      rw [e] at z
      exact z
    | ref _=>simp [aM] at hy
    | ty _=>simp [aM] at hy
  | ref _=>simp [aM] at hx
  | ty _=>simp [aM] at hx
theorem anF {pins:List (Addr×Obj)} {σ:St} {H:Hp} {s:Shared} (I:Inv X pins σ H s) (n:Nat) (A:Around) {a1:Addr} {xs:List V} (hl:tX X.K H a1 xs) (y:D) (vy:V) (v:Value) (hu0:A.units < cLine) (hy:aM n y=true) (ry:RD X.K H y vy) (rv:RelV vy v):SeqAt.RcNeAt A s (.ref a1) v true:=by
  obtain ⟨dD,vv1,pl,_⟩:=I.list hl
  have p1:=pl.isList
  cases ry with
  | non =>
    cases rv
    exact SeqAt.RcNeAt.list_none p1 hu0
  | bl b2 =>
    cases rv
    exact SeqAt.RcNeAt.list_bool b2 p1 hu0
  | int i2 =>
    obtain ⟨t2,rfl⟩:=rv
    exact SeqAt.RcNeAt.list_int i2 t2 p1 hu0
  | str z2 =>
    obtain ⟨t2,rfl⟩:=rv
    exact SeqAt.RcNeAt.list_str z2 t2 p1 hu0
  | @tup a2 xs2 oE h2 r2 =>
    cases rv
    obtain ⟨its2,yR,p2,_⟩:=I.tuple h2
    exact SeqAt.RcNeAt.list_tuple (show s.heap.IsList a1 dD.toArray from p1) (show s.heap.IsTuple a2 its2.toArray from p2) hu0
  | ref _=>cases n <;> simp [aM] at hy
  | ty _=>cases n <;> simp [aM] at hy
theorem anG {pins:List (Addr×Obj)} {σ:St} {H:Hp} {s:Shared} (I:Inv X pins σ H s) (n:Nat) (A:Around) {a2:Addr} {xs:List V} (hl:tX X.K H a2 xs) (y:D) (vy:V) (v:Value) (hu0:A.units < cLine) (hy:aM n y=true) (ry:RD X.K H y vy) (rv:RelV vy v):SeqAt.RcNeAt A s v (.ref a2) true:=by
  obtain ⟨its2,yR,pl,_⟩:=I.list hl
  have p2:=pl.isList
  cases ry with
  | non =>
    cases rv
    exact SeqAt.RcNeAt.none_list p2 hu0
  | bl b1 =>
    cases rv
    exact SeqAt.RcNeAt.bool_list b1 p2 hu0
  | int i1 =>
    obtain ⟨t1,rfl⟩:=rv
    exact SeqAt.RcNeAt.int_list i1 t1 p2 hu0
  | str z1 =>
    obtain ⟨t1,rfl⟩:=rv
    exact SeqAt.RcNeAt.str_list z1 t1 p2 hu0
  | @tup a1 xs1 xA h1 r1 =>
    cases rv
    obtain ⟨dD,vv1,p1,_⟩:=I.tuple h1
    exact SeqAt.RcNeAt.tuple_list (show s.heap.IsTuple a1 dD.toArray from p1) (show s.heap.IsList a2 its2.toArray from p2) hu0
  | ref _=>cases n <;> simp [aM] at hy
  | ty _=>cases n <;> simp [aM] at hy
theorem anH {pins:List (Addr×Obj)} {σ:St} {H:Hp} {s:Shared} (I:Inv X pins σ H s) (n:Nat) (A:Around) {a1 a2:Addr} {xs1 xs2:List V} {xA oE:List D} (h1:tX X.K H a1 xs1) (h2:tX X.K H a2 xs2) (r1:bM X.K H xA xs1) (r2:bM X.K H oE xs2)
    (hu:A.units+(n+1) < cLine) (hx:xA.all (aM n)=true) (hy:oE.all (aM n)=true):SeqAt.RcNeAt A s (.ref a1) (.ref a2) (!jE xA oE):=by
  have hu0:A.units < cLine:=by omega
  obtain ⟨dD,vv1,q1,_⟩:=I.list h1
  obtain ⟨its2,yR,q2,_⟩:=I.list h2
  have p1:=q1.isList
  have p2:=q2.isList
  by_cases hl:xA.length=oE.length
  · have hsz:dD.toArray.size=its2.toArray.size:=by rw [List.size_toArray,List.size_toArray,← vv1.length,← yR.length,← r1.length,← r2.length];exact hl
    have z:=SeqAt.RcNeAt.lists (e:=pQ xA oE) p1 p2 hsz hu0 (rN (n:=n) r1 r2 vv1 yR fun x mx y my v w u t q1 q2 q3 q4 =>
            a4K I n A.in1 x y v w u t (rO hu) (List.all_eq_true.mp hx x mx) (List.all_eq_true.mp hy y my) q1 q2 q3 q4)
    have e:(List.range dD.toArray.size).all (pQ xA oE)=jE xA oE:=by rw [a2U hl,List.size_toArray,← vv1.length,← r1.length]
    rw [e] at z
    exact z
  · have hne:(dD.toArray.size != its2.toArray.size)=true:=by rw [List.size_toArray,List.size_toArray,← vv1.length,← yR.length,← r1.length,← r2.length];simpa using hl
    have e:jE xA oE=false:=a6I (by simpa using hl)
    rw [e]
    exact SeqAt.RcNeAt.lists_lengths p1 p2 hne hu0
def eqG (G:Gp) (x y:D) (k:Bool→Prop):Prop:=match x,y with
  | .ref a,.ref b=>(match bH G a,bH G b with
    | some xs,some ys=>xs.all (aM 20)=true∧ys.all (aM 20)=true∧k (jE xs ys)
    | _,_=>False)
  | .ref a,y=>(match bH G a with
    | some _=>aM 20 y=true∧k false
    | none=>False)
  | x,.ref b=>(match bH G b with
    | some _=>aM 20 x=true∧k false
    | none=>False)
  | x,y=>aM 20 x=true∧aM 20 y=true∧k (eqP x y)
def lR:R3:=fun x y G R=>eqG G x y fun b=>R (.bl b) G
def adM:R3:=fun x y G R=>eqG G x y fun b=>R (.bl (!b)) G
theorem adN {f:Value→Value→Sem Value} {r3:R3} (h:∀ (pins:List (Addr×Obj)) (s:Shared) (σ:St) (H:Hp) (x y:D) (vx vy:V) (u v:Value) (G:Gp) (R:dG) (Q:VK),Inv X pins σ H s→RD X.K H x vx→RD X.K H y vy→RelV vx u→RelV vy v→HR X.K H G→r3 x y G R →
      (∀ w H' d G',Ts H H'→RD X.K H' d w→HR X.K H' G'→R d G'→Q w H')→wpAny (model X.prog X.w) X.A (f u v) (EP X pins σ Q) X.xe s):uO X f r3 :=
  ⟨fun vx vy H Q=>∃ x y G R,RD X.K H x vx∧RD X.K H y vy∧HR X.K H G∧r3 x y G R∧∀ w H' d G',Ts H H'→RD X.K H' d w→HR X.K H' G'→R d G'→Q w H',
    fun pins s σ H vx vy u v Q I ru rv ⟨x,y,G,R,rx,ry,g,q,k⟩=>h pins s σ H x y vx vy u v G R Q I rx ry ru rv g q k,fun H x y vx vy G R Q rx ry g q k=>⟨x,y,G,R,rx,ry,g,q,k⟩⟩
theorem a9N (hu:X.A.units+64 < cLine) {neg:Bool} {op:CmpOp} (hop:op=if neg then .NotEq else .Eq) {pins:List (Addr×Obj)} {s:Shared} {σ:St} {H:Hp} {x y:D} {vx vy:V} {u v:Value} {G:Gp} {k:Bool→Prop} {Q:VK} (I:Inv X pins σ H s) (rx:RD X.K H x vx) (ry:RD X.K H y vy) (ru:RelV vx u) (rv:RelV vy v) (g:HR X.K H G)
    (h:eqG G x y k) (hk:∀ b,k b→EP X pins σ Q (.bool (neg ^^ b)) s):wpAny (model X.prog X.w) X.A (compareOp op u v) (EP X pins σ Q) X.xe s:=by
  have fin:∀ {b:Bool},(if neg then SeqAt.RcNeAt X.A s u v (!b) else SeqAt.RcAt X.A s u v b)→k b→wpAny (model X.prog X.w) X.A (compareOp op u v) (EP X pins σ Q) X.xe s:=fun {b} z kb=>by
    have e:=hk b kb
    cases neg with
    | true =>
      subst hop
      rw [Bool.true_xor] at e
      exact z X.prog X.w X.xe _ e
    | false =>
      subst hop
      rw [Bool.false_xor] at e
      exact z X.prog X.w X.xe _ e
  have hu1:X.A.units+(20+1) < cLine:=by omega
  have hu2:X.A.units+(19+1) < cLine:=by omega
  have hu0:X.A.units < cLine:=by omega
  have plain:aM 20 x=true→aM 20 y=true→k (eqP x y)→wpAny (model X.prog X.w) X.A (compareOp op u v) (EP X pins σ Q) X.xe s:=fun hx hy kk=>fin (b:=eqP x y) (by
    cases neg with
    | true=>exact anE I 19 X.A x y vx vy u v hu2 hx hy rx ry ru rv
    | false=>exact awW I 19 X.A x y vx vy u v hu2 hx hy rx ry ru rv) kk
  have left:∀ a xs,x = .ref a→bH G a=some xs→aM 20 y=true→k false→wpAny (model X.prog X.w) X.A (compareOp op u v) (EP X pins σ Q) X.xe s:=fun a xs e1 e2 hy kk=>by
    subst e1
    cases rx
    cases ru
    obtain ⟨zs,hz,_⟩:=cA g e2
    refine fin (b:=false) ?_ kk
    cases neg with
    | true=>exact anF I 20 X.A hz y vy v hu0 hy ry rv
    | false=>exact awX I 20 X.A hz y vy v hu0 hy ry rv
  have right:∀ a xs,y = .ref a→bH G a=some xs→aM 20 x=true→k false→wpAny (model X.prog X.w) X.A (compareOp op u v) (EP X pins σ Q) X.xe s:=fun a xs e1 e2 hy kk=>by
    subst e1
    cases ry
    cases rv
    obtain ⟨zs,hz,_⟩:=cA g e2
    refine fin (b:=false) ?_ kk
    cases neg with
    | true=>exact anG I 20 X.A hz x vx u hu0 hy rx ru
    | false=>exact awY I 20 X.A hz x vx u hu0 hy rx ru
  unfold eqG at h
  split at h
  · rename_i a b
    split at h
    · rename_i xs ys e1 e2
      cases rx;cases ry;cases ru;cases rv
      obtain ⟨zs1,hz1,q1⟩:=cA g e1
      obtain ⟨zs2,hz2,q2⟩:=cA g e2
      refine fin (b:=jE xs ys) ?_ h.2.2
      cases neg with
      | true=>exact anH I 20 X.A hz1 hz2 q1 q2 hu1 h.1 h.2.1
      | false=>exact awZ I 20 X.A hz1 hz2 q1 q2 hu1 h.1 h.2.1
    · exact h.elim
  · rename_i a _
    split at h
    · rename_i xs e1
      exact left a xs rfl e1 h.1 h.2
    · exact h.elim
  · rename_i b _
    split at h
    · rename_i xs e1
      exact right b xs rfl e1 h.1 h.2
    · exact h.elim
  · exact plain h.1 h.2.1 h.2.2
theorem ax0 (hu:X.A.units+64 < cLine):uO X (compareOp .Eq) lR:=adN fun pins s σ H x y vx vy u v G R Q I rx ry ru rv g q k =>
  a9N (neg:=false) hu rfl I rx ry ru rv g q fun b kb=>⟨.bl b,H,I,by rw [Bool.false_xor];rfl,k _ H (.bl b) G (.refl H) (.bl b) g kb⟩
theorem ax1 (hu:X.A.units+64 < cLine):uO X (compareOp .NotEq) adM:=adN fun pins s σ H x y vx vy u v G R Q I rx ry ru rv g q k =>
  a9N (neg:=true) hu rfl I rx ry ru rv g q fun b kb=>⟨.bl (!b),H,I,by rw [Bool.true_xor];rfl,k _ H (.bl (!b)) G (.refl H) (.bl (!b)) g kb⟩
end
end L2
namespace L2
open PySem PySem.Spec PyProof.Rows PySem.W PySem.Calls
open PySem.Builtin PySem.Builtin.ObjectAttr PySem.Builtin.Getset_descriptor
section
variable {prog:Program} {w:World} {A:Around} {E:Value→Shared→Prop} {s:Shared} {K:Fg} {x C:Addr} {o:Obj}
theorem a1V {tp:Value} {R:Result→Shared→Prop} (X:K.In s.heap) (hx:s.heap.get? x=some o) (hc:o.cls = .ref C) (hm:mroIn K C (.type "object")=some true)
    (h:R (.ok (.ret (.ref C))) s):codeAny (model prog w) A (.call (.builtin "getset_descriptor.__get__") ⟨[.builtin "object.__class__",.ref x,tp],[]⟩) R s:=by
  obtain ⟨hh,g,dr,t,os⟩:=s
  have L0:Looks (model prog w) hh (typeOf (.ref x)) (.ref C):=hc ▸ (Looks.ld hx).andThen .now
  have L1:=looks_mroIn (M:=model prog w) X hm
  refine codeAny_call_builtin KF.slot_gs.plain KF.entry_gs (KF.slot_gs.check _ _ _ _ _ _ _ _ KF.type_class (KF.args_gs _ _ _) ?_)
  unfold Builtin.«getset_descriptor.__get__» descrGet
  rw [dga_obj]
  refine wpAny_bind (wpAny_pure ?_)
  unfold descrGetter descrCheckInstance descrNameAndClass isInstance
  simp only [KF.owner_class]
  repeat lk
  refine ⟨Code.quiet_builtin _ (by decide +kernel),codeAny_builtin KF.entry_class ?_⟩
  unfold Builtin.«object.__class__» shownTypeOf
  repeat lk
  exact h
theorem abN {Q:Option Value→Shared→Prop} (X:K.In s.heap) (hx:s.heap.get? x=some o) (hc:o.cls = .ref C)
    (hga:findIn K (.ref C) "__getattribute__" = some (some (.builtin "BaseException.__getattribute__"))) (hgn:findIn K (.ref C) "__getattr__" = some none) (ha:findIn K (.ref C) "__class__" = some (some (.builtin "object.__class__")))
    (hb:subIn K (.ref C) (.type "BaseException")=some true) (hm:mroIn K C (.type "object")=some true) (h:Q (some (.ref C)) { s with toks:=s.toks+1 }):wpAny (model prog w) A (getAttr? (.ref x) "__class__") Q E s:=by
  obtain ⟨hh,g,d,t,os⟩:=s
  have L0:Looks (model prog w) hh (typeOf (.ref x)) (.ref C):=hc ▸ (Looks.ld hx).andThen .now
  have L1:=looks_findIn (M:=model prog w) X hga
  have L2':=looks_findIn (M:=model prog w) X hgn
  have L3:=looks_findIn (M:=model prog w) X ha
  have L4:=looks_subIn (M:=model prog w) X hb
  unfold getAttr? getAttrBy? getAttrBy
  refine wpAny_bind (wpAny_mkText (wpAny_bind (wpAny_attempt (wpAny_holding (wpAny_bind (L0.at (wpAny_bind (L1.at ?_))))))))
  have hx2:(Value.builtin "BaseException.__getattribute__" == Value.builtin "object.__getattribute__")=false:=by decide +kernel
  have f3:=PySem.F.attr_ValueError.ga.bind (.ref x)
  have hk:builtinKind "BaseException.__getattribute__" = some .slot:=by decide +kernel
  have hsplit:splitId "BaseException.__getattribute__" = some ("BaseException", "__getattribute__"):=by decide +kernel
  have ha2:=PySem.F.args_bexc_ga (.ref x) (.str "__class__" t)
  repeat (first | with_reducible refine L0.at ?_ | with_reducible refine L1.at ?_ | with_reducible refine L2'.at ?_ | with_reducible refine L3.at ?_ | with_reducible refine L4.at ?_ | wp_step)
  refine codeAny_call_builtin PySem.F.attr_ValueError.ga.plain PySem.F.entry_bexc_ga ?_
  simp only [checkBuiltinCall,hk,hsplit]
  unfold isInstance
  have f5:=PySem.F.typeOf_object_class
  have f6:=PySem.F.slot_gs_get.lookup
  have f7:=PySem.F.slot_gs_set.lookup
  repeat (any_goals (first | assumption | with_reducible refine L0.at ?_ | with_reducible refine L1.at ?_ | with_reducible refine L2'.at ?_ | with_reducible refine L3.at ?_ | with_reducible refine L4.at ?_ | wp_step))
  refine a1V X hx hc hm ?_
  repeat (any_goals (first | assumption | wp_step))
end
end L2
namespace L2
open PySem PySem.Spec PyProof.Rows
section
variable {X:Cx} {x:Str} {p pos:Pos} {e o:Expr} {es:List Expr} {t:n6} {to:cB} {id T:String} {r3:List D→Gp→dG→Prop}
def eX (X:Cx) (f:Value) (r3:List D→Gp→dG→Prop):Prop :=
  ∀ (pins:List (Addr×Obj)) (s:Shared) (σ:St) (H:Hp) (xs:List D) (vs:List V) (us:List Value) (G:Gp) (R:dG) (Q:VK),Inv X pins σ H s→bM X.K H xs vs→Vals vs us→HR X.K H G→r3 xs G R →
    (∀ v H' d G',Ts H H'→RD X.K H' d v→HR X.K H' G'→R d G'→Q v H')→wpAny (model X.prog X.w) X.A (call f us) (EP X pins σ Q) X.xe s
theorem eX.of {f:Value} {r:List V→Hp→VK→Prop} (h:rE X f r) (i:∀ (H:Hp) (xs:List D) (vs:List V) (G:Gp) (R:dG) (Q:VK),bM X.K H xs vs→HR X.K H G→r3 xs G R →
    (∀ v H' d G',Ts H H'→RD X.K H' d v→HR X.K H' G'→R d G'→Q v H')→r vs H fun v H'=>KF X.K H'→Q v H'):eX X f r3:=fun pins s σ H xs vs us G R Q I rx rv g q k =>
  cV (h pins s σ H vs us _ I rv (i H xs vs G R Q rx g q k)) fun _ _ ⟨v,H',I',r,q'⟩=>⟨v,H',I',r,q' (rK I')⟩
def iD (r3:List D→Gp→dG→Prop) (t:n6):cB:=fun ρ G R=>t ρ G fun xs G1=>r3 xs G1 R
theorem a9O (hc:eX X (.builtin id) r3) (hg:Gl X x) (hm:X.mg x=none) (hv:bootBuiltins x=some (.builtin id)) (ha:PA3 X (e :: es) t) (hn:x ≠ "__name__" := by decide) (hdb:(x == ("__debug__" : Str))=false:=by decide)
    (he:starEach (e :: es) X.env=(false,eval e X.env) :: starEach es X.env:=by rfl) (hpl:(backTo pos (starEach es X.env)).any (·.1)=false:=by rfl):cI X (.Call (.Name x p) (e :: es) [] pos) (iD r3 t):=by
  intro pins s σ H Q I h _tk
  obtain ⟨ρ,G,R,sr,g,q,kk⟩:=h
  refine wpAny_Call_Name_kw (a3S I hg hm hv ?_ hn hdb)
  exact PyProof.Rows.callWith_builtin1 (cV (ha pos pins s σ H (fun vs H1=>Ts H H1∧∃ ds G1,bM X.K H1 ds vs∧HR X.K H1 G1∧r3 ds G1 R) I ⟨ρ,G,_,sr,g,q,fun vs H1 ds G1 t1 r1 g1 q1=>⟨t1,ds,G1,r1,g1,q1⟩⟩) fun us s1 ⟨vs,H1,I1,r,t1,ds,G1,r1,g1,q1⟩ =>
    hc pins s1 σ H1 ds vs us G1 R Q I1 r1 r g1 q1 fun v H' d G' t2=>kk v H' d G' (t1.trans t2)) he hpl
theorem adO (hc:eX X (.type T) r3) (hg:Gl X x) (hm:X.mg x=none) (hv:bootBuiltins x=some (.type T)) (ha:PA3 X (e :: es) t) (hn:x ≠ "__name__" := by decide) (hdb:(x == ("__debug__" : Str))=false:=by decide)
    (he:starEach (e :: es) X.env=(false,eval e X.env) :: starEach es X.env:=by rfl) (hpl:(backTo pos (starEach es X.env)).any (·.1)=false:=by rfl):cI X (.Call (.Name x p) (e :: es) [] pos) (iD r3 t):=by
  intro pins s σ H Q I h _tk
  obtain ⟨ρ,G,R,sr,g,q,kk⟩:=h
  refine wpAny_Call_Name_kw (a3S I hg hm hv ?_ hn hdb)
  exact PyProof.Rows.callWith_type1 (cV (ha pos pins s σ H (fun vs H1=>Ts H H1∧∃ ds G1,bM X.K H1 ds vs∧HR X.K H1 G1∧r3 ds G1 R) I ⟨ρ,G,_,sr,g,q,fun vs H1 ds G1 t1 r1 g1 q1=>⟨t1,ds,G1,r1,g1,q1⟩⟩) fun us s1 ⟨vs,H1,I1,r,t1,ds,G1,r1,g1,q1⟩ =>
    hc pins s1 σ H1 ds vs us G1 R Q I1 r1 r g1 q1 fun v H' d G' t2=>kk v H' d G' (t1.trans t2)) he hpl
def oF:List D→Gp→dG→Prop:=fun xs G R=>match xs with
  | [.str z]=>z.length≤sizeLine∧R (.int z.length) G
  | [.tup ds]=>R (.int ds.length) G
  | [.ref q]=>(match bH G q with
    | some ds=>R (.int ds.length) G
    | none=>False)
  | _=>False
theorem asH:eX X (.builtin "len") oF:=eX.of (a4C.or a4D) fun H xs vs G R Q rx g q k=>by
  cases rx with
  | nil=>exact False.elim q
  | cons r rr =>
    cases rr with
    | cons _ _=>cases r <;> exact False.elim q
    | nil =>
      cases r with
      | str z=>exact .inr ⟨z,rfl,q.1,fun _=>k _ H _ G (.refl H) (.int _) g q.2⟩
      | @tup a xs ds ha ra=>exact .inl ⟨a,xs,rfl,.inr ha,fun _=>by rw [← ra.length];exact k _ H _ G (.refl H) (.int _) g q⟩
      | ref a =>
        have q':(match bH G a with
          | some ds=>R (.int ds.length) G
          | none=>False):=q
        split at q'
        · rename_i ds e1
          obtain ⟨xs,h1,r1⟩:=cA g e1
          exact .inl ⟨a,xs,rfl,.inl h1,fun _=>by rw [← r1.length];exact k _ H _ G (.refl H) (.int _) g q'⟩
        · exact q'.elim
      | _=>exact False.elim q
def akS:List D→Gp→dG→Prop:=fun xs G R=>match xs with
  | [.int i]=>R (.int i) G
  | [.bl b]=>R (.int (if b then 1 else 0)) G
  | _=>False
theorem asI:eX X (.type "int") akS:=eX.of ab8 fun H xs vs G R Q rx g q k=>by
  cases rx with
  | nil=>exact False.elim q
  | cons r rr =>
    cases rr with
    | cons _ _=>cases r <;> exact False.elim q
    | nil =>
      cases r with
      | int i=>exact .inl ⟨i,rfl,fun _=>k _ H _ G (.refl H) (.int _) g q⟩
      | bl b=>exact .inr ⟨b,rfl,fun _=>k _ H _ G (.refl H) (.int _) g q⟩
      | _=>exact False.elim q
def zZ:List D→Gp→dG→Prop:=fun xs G R=>match xs with
  | [.tup ds]=>∀ l,G l=none→R (.ref l) (aL G l (.lst ds))
  | [.ref q]=>(match bH G q with
    | some ds=>∀ l,G l=none→R (.ref l) (aL G l (.lst ds))
    | none=>False)
  | _=>False
theorem anI:eX X (.type "list") zZ:=eX.of a4E fun H xs vs G R Q rx g q k=>by
  cases rx with
  | nil=>exact False.elim q
  | cons r rr =>
    cases rr with
    | cons _ _=>cases r <;> exact False.elim q
    | nil =>
      cases r with
      | @tup a xs ds ha ra =>
        refine ⟨a,xs,rfl,.inr ha,fun l hl kf=>?_⟩
        have sn:Same H (upd H l (.lst xs)):=bB hl
        exact k _ _ _ _ (.same sn) (.ref l) (g.put (u := .lst ds) hl ⟨_,aJ,ra.mono (.same sn)⟩) (q l (lQ g hl kf))
      | ref a =>
        have q':(match bH G a with
          | some ds=>∀ l,G l=none→R (.ref l) (aL G l (.lst ds))
          | none=>False):=q
        split at q'
        · rename_i ds e1
          obtain ⟨xs,h1,r1⟩:=cA g e1
          refine ⟨a,xs,rfl,.inl h1,fun l hl kf=>?_⟩
          have sn:Same H (upd H l (.lst xs)):=bB hl
          exact k _ _ _ _ (.same sn) (.ref l) (g.put (u := .lst ds) hl ⟨_,aJ,r1.mono (.same sn)⟩) (q' l (lQ g hl kf))
        · exact q'.elim
      | _=>exact False.elim q
def tyD (G:Gp):D→Option String
  | .non=>some "NoneType"
  | .bl _=>some "bool"
  | .int _=>some "int"
  | .str _=>some "str"
  | .tup _=>some "tuple"
  | .ref q=>(match G q with
    | some (.lst _)=>some "list"
    | some (.rol _)=>some "list"
    | some (.tV _ _)=>some "dict"
    | _=>none)
  | .ty _=>none
def exD (G:Gp):D→Option Addr
  | .ref q=>(match G q with
    | some (.z9 C)=>some C
    | _=>none)
  | _=>none
def subB (T n:String):Bool:=T == n || (T == "bool" && n == "int")
def asJ:List String:=["NoneType", "bool", "int", "str", "list", "tuple", "dict"]
def nW:List String:=["int", "bool", "str", "list", "tuple", "dict", "ValueError"]
theorem anK:∀ T∈asJ,∀ n∈nW,PySem.W.kitOne [] (.type T) (.type n)=some (subB T n):=by decide +kernel
theorem jQ (K:Fg) {T n:String} (h1:T∈asJ) (h2:n∈nW):PySem.W.kitOne K (.type T) (.type n)=some (subB T n):=anK T h1 n h2
structure ExC (K:Fg) (C:Addr):Prop where
  ga:PySem.W.findIn K (.ref C) "__getattribute__" = some (some (.builtin "BaseException.__getattribute__"))
  gn:PySem.W.findIn K (.ref C) "__getattr__" = some none
  cl:PySem.W.findIn K (.ref C) "__class__" = some (some (.builtin "object.__class__"))
  be:PySem.W.subIn K (.ref C) (.type "BaseException")=some true
  ob:PySem.W.mroIn K C (.type "object")=some true
  cs:(PySem.W.clsIn K C).isSome=true
theorem adP {K:Fg} {a C:Addr} (c:ExC K C):PySem.W.KitX K (.ref a) (.ref C) (tY C a) where
  ty:=fun M h X ⟨o,vs,h1,h2,_⟩=>h2 ▸ (PySem.W.Looks.ld h1).andThen .now
  it:=fun M h X _=>by
    intro A' Q' E' s' k q
    cases eK:PySem.W.clsIn K C with
    | none=>have:=c.cs;rw [eK] at this;cases this
    | some cd =>
      unfold PySem.W.clsIn at eK
      split at eK
      · rename_i ho
        unfold isType loadHead
        exact wpAny_bind (wpAny_loadPart (k _ _ (X _ _ ho)) (wpAny_pure q))
      · cases eK
  ne:=fun h tp dd its n sl X htp=>by
    refine Bool.eq_false_iff.mpr fun q=>?_
    have e:C=tp:=Value.ref.inj (beq_iff_eq.mp q)
    subst e
    cases eK:PySem.W.clsIn K C with
    | none=>have:=c.cs;rw [eK] at this;cases this
    | some cd =>
      unfold PySem.W.clsIn at eK
      split at eK
      · rename_i ho
        have z:=(X _ _ ho).symm.trans htp
        cases z
      · cases eK
  ca:=fun X ⟨o,vs,h1,h2,_⟩ k=>abN X h1 h2 c.ga c.gn c.cl c.be c.ob k
def aD (K:Fg):List D→Gp→dG→Prop:=fun xs G R=>match xs with
  | [x,.ty n]=>(match tyD G x with
    | some T=>n∈nW∧R (.bl (subB T n)) G
    | none=>(match exD G x with
      | some C=>∃ b,ExC K C∧PySem.W.kitOne K (.ref C) (.type n)=some b∧R (.bl b) G
      | none=>False))
  | [x,.ref C']=>(match exD G x with
    | some C=>∃ b,ExC K C∧PySem.W.kitOne K (.ref C) (.ref C')=some b∧R (.bl b) G
    | none=>False)
  | _=>False
theorem adQ {G:Gp} {x:D} {C:Addr} (h:exD G x=some C):∃ a,x = .ref a∧G a=some (.z9 C):=by
  cases x with
  | ref q =>
    refine ⟨q,rfl,?_⟩
    have h':(match G q with
      | some (.z9 C)=>some C
      | _=>none)=some C:=h
    split at h'
    · rename_i e1;cases h';exact e1
    · cases h'
  | _=>cases h
theorem nA {pins:List (Addr×Obj)} {s:Shared} {σ:St} {H:Hp} {a C:Addr} {c:Value} {b:Bool} {G:Gp} {R:dG} {Q:VK} (I:Inv X pins σ H s) (g:HR X.K H G) (e:G a=some (.z9 C)) (hc:ExC X.K C) (hk:PySem.W.kitOne X.K (.ref C) c=some b) (q:R (.bl b) G)
    (k:∀ v H' d G',Ts H H'→RD X.K H' d v→HR X.K H' G'→R d G'→Q v H'):wpAny (model X.prog X.w) X.A (call (.builtin "isinstance") [.ref a,c]) (EP X pins σ Q) X.xe s:=by
  obtain ⟨o0,vs0,z,_⟩:=g a _ e
  obtain ⟨_,z1,_,_⟩:=I.hok a _ z
  exact PySem.W.kia_one (adP hc) I.xV z1 hk (fun z=>nomatch z) fun tk=>⟨.bl b,H,I.tok tk,rfl,k _ H _ G (.refl H) (.bl b) g q⟩
theorem anL {pins:List (Addr×Obj)} {s:Shared} {σ:St} {H:Hp} {x:D} {vx:V} {u:Value} {T n:String} {G:Gp} {R:dG} {Q:VK} (I:Inv X pins σ H s) (rx:RD X.K H x vx) (ru:RelV vx u) (g:HR X.K H G) (e:tyD G x=some T) (hn:n∈nW) (q:R (.bl (subB T n)) G)
    (k:∀ v H' d G',Ts H H'→RD X.K H' d v→HR X.K H' G'→R d G'→Q v H'):wpAny (model X.prog X.w) X.A (call (.builtin "isinstance") [u,.type n]) (EP X pins σ Q) X.xe s:=by
  have fin:∀ tk,EP X pins σ Q (.bool (subB T n)) { s with toks:=tk }:=fun tk=>⟨.bl _,H,I.tok tk,rfl,k _ H _ G (.refl H) (.bl _) g q⟩
  cases rx with
  | non=>cases ru;cases e;exact PySem.W.kia_one PySem.W.kitx_none I.xV True.intro (jQ _ (by decide) hn) (fun z=>nomatch z) fin
  | bl b=>cases ru;cases e;exact PySem.W.kia_one PySem.W.kitx_bool I.xV True.intro (jQ _ (by decide) hn) (fun z=>nomatch z) fin
  | int i=>obtain ⟨t,rfl⟩:=ru;cases e;exact PySem.W.kia_one PySem.W.kitx_int I.xV True.intro (jQ _ (by decide) hn) (fun z=>nomatch z) fin
  | str i=>obtain ⟨t,rfl⟩:=ru;cases e;exact PySem.W.kia_one PySem.W.kitx_str I.xV True.intro (jQ _ (by decide) hn) (fun z=>nomatch z) fin
  | ty n=>cases e
  | @tup a xs ds ha ra =>
    cases ru;cases e
    obtain ⟨its,_,p,_⟩:=I.tuple ha
    obtain ⟨o,h1,h2,_⟩:=p
    exact PySem.W.kia_one PySem.W.kitx_tuple I.xV ⟨o,h1,h2⟩ (jQ _ (by decide) hn) (fun z=>nomatch z) fin
  | ref a =>
    cases ru
    have e':(match G a with
      | some (.lst _)=>some "list"
      | some (.rol _)=>some "list"
      | some (.tV _ _)=>some "dict"
      | _=>none)=some T:=e
    split at e'
    · rename_i ds e1
      cases e'
      obtain ⟨xs,h1,_⟩:=cA g (show bH G a=some ds by unfold bH;rw [e1])
      obtain ⟨its,_,p,_⟩:=I.list h1
      obtain ⟨o,n',h1,h2,_⟩:=p
      exact PySem.W.kia_one PySem.W.kitx_list I.xV ⟨o,h1,h2⟩ (jQ _ (by decide) hn) (fun z=>nomatch z) fin
    · rename_i ds e1
      cases e'
      obtain ⟨xs,h1,_⟩:=cA g (show bH G a=some ds by unfold bH;rw [e1])
      obtain ⟨its,_,p,_⟩:=I.list h1
      obtain ⟨o,n',h1,h2,_⟩:=p
      exact PySem.W.kia_one PySem.W.kitx_list I.xV ⟨o,h1,h2⟩ (jQ _ (by decide) hn) (fun z=>nomatch z) fin
    · rename_i kvs e1
      cases e'
      rcases g a _ e1 with ⟨_,xs,h1,_⟩ | ⟨_,xs,h1,_⟩
      · obtain ⟨_,_,vs,_,o,es,ep,h1,h2,_⟩:=I.hok a _ h1
        exact PySem.W.kia_one PySem.W.kitx_dict I.xV ⟨o,h1,h2.1⟩ (jQ _ (by decide) hn) (fun z=>nomatch z) fin
      · obtain ⟨_,_,xs,_,o,es,ep,h1,h2,_⟩:=I.hok a _ h1
        exact PySem.W.kia_one PySem.W.kitx_dict I.xV ⟨o,h1,h2.1⟩ (jQ _ (by decide) hn) (fun z=>nomatch z) fin
    · cases e'
theorem a4M:eX X (.builtin "isinstance") (aD X.K):=by
  intro pins s σ H xs vs us G R Q I rx rv g q k
  cases rx with
  | nil=>exact False.elim q
  | @cons x v ds ws r1 rr =>
    cases rr with
    | nil=>cases r1 <;> exact False.elim q
    | @cons y v2 oE ws2 r2 rr2 =>
      cases rr2 with
      | cons _ _=>cases r2 <;> exact False.elim q
      | nil =>
        obtain ⟨u1,u2,rfl,ru1,ru2⟩:=vals2 rv
        cases r2 with
        | ty n =>
          cases ru2
          have q':(match tyD G x with
            | some T=>n∈nW∧R (.bl (subB T n)) G
            | none=>(match exD G x with
              | some C=>∃ b,ExC X.K C∧PySem.W.kitOne X.K (.ref C) (.type n)=some b∧R (.bl b) G
              | none=>False)):=q
          split at q'
          · rename_i T eT
            exact anL I r1 ru1 g eT q'.1 q'.2 k
          · split at q'
            · rename_i C eC
              obtain ⟨a,rfl,ea⟩:=adQ eC
              obtain ⟨b,hc,hk,q'⟩:=q'
              cases r1;cases ru1
              exact nA I g ea hc hk q' k
            · exact q'.elim
        | ref C' =>
          cases ru2
          have q':(match exD G x with
            | some C=>∃ b,ExC X.K C∧PySem.W.kitOne X.K (.ref C) (.ref C')=some b∧R (.bl b) G
            | none=>False):=q
          split at q'
          · rename_i C eC
            obtain ⟨a,rfl,ea⟩:=adQ eC
            obtain ⟨b,hc,hk,q'⟩:=q'
            cases r1;cases ru1
            exact nA I g ea hc hk q' k
          · exact q'.elim
        | _=>exact False.elim q
end
end L2
namespace L2
open PySem PySem.Spec PyProof.Rows
theorem a00 {K:Fg} {H:Hp} {x:D} {vx:V} (hx:scD x=true) (rx:RD K H x vx):∀ {ys:List D} {vs:List V},bM K H ys vs→ys.all scD=true→vs.any (fun y=>eqV y vx)=ys.any (fun y=>eqP y x)
  | _,_,.nil,_=>rfl
  | _,_,.cons h r,hs=>by
    rw [List.all_cons,Bool.and_eq_true] at hs
    rw [List.any_cons,List.any_cons,a00 hx rx r hs.2]
    congr 1
    obtain ⟨h1,_⟩:=hs
    cases rx <;> cases h <;> first | (simp [eqV,eqP];done) | cases hx | cases h1
theorem vR {K:Fg} {H:Hp} {x:D} {vx:V} (hx:scD x=true) (rx:RD K H x vx):qT vx=true:=by cases rx <;> first | rfl | cases hx
theorem rP {K:Fg} {H:Hp}:∀ {ys:List D} {vs:List V},bM K H ys vs→ys.all scD=true→vs.all qT=true
  | _,_,.nil,_=>rfl
  | _,_,.cons h r,hs=>by
    rw [List.all_cons,Bool.and_eq_true] at hs
    rw [List.all_cons,vR hs.1 h,rP r hs.2];rfl
def inG (G:Gp) (x y:D) (k:Bool→Prop):Prop:=match x,y with
  | .str i,.str j=>k (!(Builtin.Str.occurrences j i 0 j.length 1).isEmpty)
  | x,.tup ys=>scD x=true∧ys.all scD=true∧k (ys.any fun y=>eqP y x)
  | x,.ref p=>(match bH G p with
    | some ys=>scD x=true∧ys.all scD=true∧k (ys.any fun y=>eqP y x)
    | none=>False)
  | _,_=>False
def adR:R3:=fun x y G R=>inG G x y fun b=>R (.bl b) G
def pR:R3:=fun x y G R=>inG G x y fun b=>R (.bl (!b)) G
section
variable {X:Cx}
theorem ax4 (hu:X.A.units+64 < cLine):uO X (compareOp .In) adR:=by
  refine ⟨_,ab7.or abD,fun H x y vx vy G R Q rx ry g h k=>?_⟩
  have h':inG G x y fun b=>R (.bl b) G:=h
  unfold inG at h'
  split at h'
  · cases rx;cases ry
    exact .inl ⟨_,_,rfl,rfl,k _ H _ G (.refl H) (.bl _) g h'⟩
  · cases ry with
    | @tup a xs ds ha ra =>
      refine .inr ⟨a,xs,rfl,.inr ha,vR h'.1 rx,rP ra h'.2.1,?_⟩
      have e:inV vx xs=_:=a00 h'.1 rx ra h'.2.1
      simp only [Bool.false_eq_true,if_false]
      rw [e]
      exact k _ H _ G (.refl H) (.bl _) g h'.2.2
  · cases ry
    split at h'
    · rename_i ys e1
      obtain ⟨xs,hq,ra⟩:=cA g e1
      refine .inr ⟨_,xs,rfl,.inl hq,vR h'.1 rx,rP ra h'.2.1,?_⟩
      have e:inV vx xs=_:=a00 h'.1 rx ra h'.2.1
      simp only [Bool.false_eq_true,if_false]
      rw [e]
      exact k _ H _ G (.refl H) (.bl _) g h'.2.2
    · exact h'.elim
  · exact h'.elim
theorem ai3 (hu:X.A.units+64 < cLine):uO X (compareOp .NotIn) pR:=by
  refine ⟨_,a3W.or a4B,fun H x y vx vy G R Q rx ry g h k=>?_⟩
  have h':inG G x y fun b=>R (.bl (!b)) G:=h
  unfold inG at h'
  split at h'
  · cases rx;cases ry
    exact .inl ⟨_,_,rfl,rfl,k _ H _ G (.refl H) (.bl _) g h'⟩
  · cases ry with
    | @tup a xs ds ha ra =>
      refine .inr ⟨a,xs,rfl,.inr ha,vR h'.1 rx,rP ra h'.2.1,?_⟩
      have e:inV vx xs=_:=a00 h'.1 rx ra h'.2.1
      simp only [if_true]
      rw [e]
      exact k _ H _ G (.refl H) (.bl _) g h'.2.2
  · cases ry
    split at h'
    · rename_i ys e1
      obtain ⟨xs,hq,ra⟩:=cA g e1
      refine .inr ⟨_,xs,rfl,.inl hq,vR h'.1 rx,rP ra h'.2.1,?_⟩
      have e:inV vx xs=_:=a00 h'.1 rx ra h'.2.1
      simp only [if_true]
      rw [e]
      exact k _ H _ G (.refl H) (.bl _) g h'.2.2
    · exact h'.elim
  · exact h'.elim
def yS (x:D) (lo hi:Option Int) (G:Gp) (R:dG):Prop:=match x with
  | .tup xs=>¬ (HT.iC xs.length 0 lo=0∧HT.iC xs.length xs.length hi=xs.length)∧R (.tup (cutD xs lo hi)) G
  | .str z=>z.length≤sizeLine∧R (.str (Txt.slice z lo hi)) G
  | .ref p=>(match bH G p with
    | some xs=>∀ q,G q=none→R (.ref q) (aL G q (.lst (cutD xs lo hi)))
    | none=>False)
  | _=>False
theorem anM:SlR X (fun x lo hi H Q=>∃ z,x = .str z∧z.length≤sizeLine∧Q (.str (Txt.slice z lo hi)) H):=by
  intro pins s σ H x v vl vu lo hi sl Q I rx hs pl pu h
  obtain ⟨z,rfl,hz,q⟩:=h
  obtain ⟨t,rfl⟩:=rx
  refine ⟨"str",_,F.slot_str_getitem.lookup,typeIs_str _ _ _,?_⟩
  have fin:∀ t' k,EP X pins σ Q (.str (Txt.slice z lo hi) t') { s with toks:=k }:=fun t' k=>⟨.str _,H,I.tok k,⟨t',rfl⟩,q⟩
  cases pl with
  | none =>
    cases pu with
    | none=>exact wpAny_getItem_str_slice (l:=none) (u:=none) (st:=none) hs rfl (post_val_or_str ⟨Nat.le_trans (Txt.slice_le z _ _) hz,fin⟩)
    | int j uj=>exact wpAny_getItem_str_slice (l:=none) (u:=some (j,uj)) (st:=none) hs rfl (post_val_or_str ⟨Nat.le_trans (Txt.slice_le z _ _) hz,fin⟩)
  | int i ui =>
    cases pu with
    | none=>exact wpAny_getItem_str_slice (l:=some (i,ui)) (u:=none) (st:=none) hs rfl (post_val_or_str ⟨Nat.le_trans (Txt.slice_le z _ _) hz,fin⟩)
    | int j uj=>exact wpAny_getItem_str_slice (l:=some (i,ui)) (u:=some (j,uj)) (st:=none) hs rfl (post_val_or_str ⟨Nat.le_trans (Txt.slice_le z _ _) hz,fin⟩)
theorem adS {K:Fg} {H:Hp} {ds:List D} {xs:List V} (r:bM K H ds xs) (lo hi:Option Int):bM K H (cutD ds lo hi) (a1R xs lo hi):=by
  unfold cutD a1R
  rw [r.length]
  exact (r.drop _).take _
def cU (te:cB) (tl th:TO3):cB:=fun ρ G R=>te ρ G fun x G1=>tl ρ G1 fun lo G2=>th ρ G2 fun hi G3=>yS x lo hi G3 R
theorem ai4 {e:Expr} {te:cB} {lo hi:Option Expr} {tl th:TO3} {p2 pos:Pos} (he:cI X e te) (hl:PO3 X lo tl) (hu:PO3 X hi th):cI X (.Subscript e (.Slice lo hi none p2) pos) (cU te tl th):=by
  refine PE.imp (PE.kf (ad4 (ahE.or (amM.or anM)) he hl hu)) fun σ H Q h=>?_
  obtain ⟨ρ,G,R,s,g,q,k⟩:=h
  refine ⟨ρ,G,_,s,g,q,fun vx H1 x G1 t1 rx g1 q1=>?_⟩
  refine ⟨ρ,G1,_,s.mono t1,g1,q1,fun l H2 G2 t2 g2 q2=>?_⟩
  refine ⟨ρ,G2,_,s.mono (t1.trans t2),g2,q2,fun u H3 G3 t3 g3 q3=>?_⟩
  have rx3:=rx.mono (t2.trans t3)
  have tt:=(t1.trans t2).trans t3
  cases rx3 with
  | @tup a xs ds ha ra =>
    refine .inr (.inl ⟨a,xs,rfl,ha,by rw [← ra.length];exact q3.1,fun p hp _=>?_⟩)
    have sn:Same H3 (upd H3 p (.tup (a1R xs l u))):=bB hp
    exact k _ _ _ G3 (tt.trans (.same sn)) (.tup (rD.of aJ) ((adS ra l u).mono (.same sn)) (ahL aJ)) (g3.same sn) q3.2
  | str z=>exact .inr (.inr ⟨z,rfl,q3.1,fun _=>k _ H3 _ G3 tt (.str _) g3 q3.2⟩)
  | ref p =>
    have q3':(match bH G3 p with
      | some xs=>∀ q,G3 q=none→R (.ref q) (aL G3 q (.lst (cutD xs l u)))
      | none=>False):=q3
    split at q3'
    · rename_i ds e1
      obtain ⟨xs,hq,ra⟩:=cA g3 e1
      refine .inl ⟨p,xs,rfl,hq,fun b hb kf=>?_⟩
      have sn:Same H3 (upd H3 b (.lst (a1R xs l u))):=bB hb
      exact k _ _ _ _ (tt.trans (.same sn)) (.ref b) (g3.put (u := .lst (cutD ds l u)) hb ⟨_,aJ,(adS ra l u).mono (.same sn)⟩) (q3' b (lQ g3 hb kf))
    · exact q3'.elim
  | _=>exact False.elim q3
def yU (T:String) (G:Gp):D→Prop
  | .str _=>T = "str"
  | .ref p=>T = "list" ∧ (bH G p).isSome=true
  | _=>False
theorem a4N {K:Fg} {H:Hp} {G:Gp} {T:String} {x:D} {v:V} (g:HR K H G) (r:RD K H x v) (h:yU T G x):tyV K T v H:=by
  cases r with
  | str z=>exact h
  | ref p =>
    obtain ⟨rfl,h⟩:=h
    obtain ⟨ds,e⟩:=Option.isSome_iff_exists.mp h
    obtain ⟨xs,hq,_⟩:=cA g e
    exact .inl ⟨rfl,xs,hq⟩
  | _=>exact False.elim h
abbrev RM3:=D→List D→Gp→dG→Prop
def vU (X:Cx) (id:String) (r3:RM3):Prop :=
  ∀ (pins:List (Addr×Obj)) (s:Shared) (σ:St) (H:Hp) (x:D) (xs:List D) (vx:V) (vs:List V) (u:Value) (us:List Value) (G:Gp) (R:dG) (Q:VK),Inv X pins σ H s→RD X.K H x vx→bM X.K H xs vs→RelV vx u→Vals vs us→HR X.K H G→r3 x xs G R →
    (∀ v H' d G',Ts H H'→RD X.K H' d v→HR X.K H' G'→R d G'→Q v H')→wpAny (model X.prog X.w) X.A (call (.builtin id) (u :: us)) (EP X pins σ Q) X.xe s
theorem vU.of {id:String} {r:V→List V→Hp→VK→Prop} {r3:RM3} (h:MtR X id r) (i:∀ (H:Hp) (x:D) (xs:List D) (vx:V) (vs:List V) (G:Gp) (R:dG) (Q:VK),RD X.K H x vx→bM X.K H xs vs→HR X.K H G→r3 x xs G R →
    (∀ v H' d G',Ts H H'→RD X.K H' d v→HR X.K H' G'→R d G'→Q v H')→r vx vs H fun v H'=>KF X.K H'→Q v H'):vU X id r3:=fun pins s σ H x xs vx vs u us G R Q I rx rs ru rv g q k =>
  cV (h pins s σ H vx vs u us _ I ru rv (i H x xs vx vs G R Q rx rs g q k)) fun _ _ ⟨v,H',I',r,q'⟩=>⟨v,H',I',r,q' (rK I')⟩
def tM3 (T:String) (r:RM3) (to:cB) (t:n6):cB:=fun ρ G R=>to ρ G fun x G1=>yU T G1 x∧t ρ G1 fun xs G2=>r x xs G2 R
def adT (T:String) (r:RM3) (to:cB):cB:=fun ρ G R=>to ρ G fun x G1=>yU T G1 x∧r x [] G1 R
theorem a86 {o e:Expr} {es:List Expr} {to:cB} {t:n6} {name:Str} {apos cpos:Pos} {T id:String} {r3:RM3} (pa:PlainAttrs T) (slot:Slot T name id) (hty:typeOf (.builtin id)=pure (.type "method_descriptor")) (hm:vU X id r3) (ho:cI X o to) (ha:PA3 X (e :: es) t)
    (hbase:attributeBase o name X.env (eval o X.env)=eval o X.env:=by rfl)
    (hfew:((backTo cpos (starEach (e :: es) X.env)).all (fun x=>!x.1)&&(backToKw cpos (keywordEach [] X.env)).all (fun x=>x.1.isSome)
      && decide ((e :: es).length+([]:List Keyword).length+(if ([]:List Keyword).isEmpty then 0 else 1) < 30))=true:=by rfl)
    (hline:(apos.endLine == cpos.line)=true:=by rfl) (hs:starEach (e :: es) X.env=(false,eval e X.env) :: starEach es X.env:=by rfl) (hplain:(backTo cpos (starEach es X.env)).any (·.1)=false:=by rfl) :
    cI X (.Call (.Attribute o name apos) (e :: es) [] cpos) (tM3 T r3 to t):=by
  intro pins s σ H Q I h _tk
  obtain ⟨ρ,G,R,sr,g,q,kk⟩:=h
  refine wpAny_Call_method_late hbase hfew hline rfl (cV (ho pins s σ H (fun vx H1=>Ts H H1∧∃ x G1,RD X.K H1 x vx∧HR X.K H1 G1∧yU T G1 x∧t ρ G1 fun xs G2=>r3 x xs G2 R) I ⟨ρ,G,_,sr,g,q,fun v H1 x G1 t1 r1 g1 q1=>⟨t1,x,G1,r1,g1,q1⟩⟩) fun v s1 ⟨vx,H1,I1,r1,t1,x,G1,rx,g1,ty,q1⟩=>?_)
  obtain ⟨h1,h2⟩:=a4F I1 r1 (a4N g1 rx ty)
  refine ⟨T,id,pa,slot,hty,h1,h2,?_⟩
  have hA:=ha cpos pins s1 σ H1 (fun vs H2=>Ts H1 H2∧∃ xs G2,bM X.K H2 xs vs∧HR X.K H2 G2∧r3 x xs G2 R) I1 ⟨ρ,G1,_,sr.mono t1,g1,q1,fun vs H2 xs G2 t2 r2 g2 q2=>⟨t2,xs,G2,r2,g2,q2⟩⟩
  rw [hs] at hA ⊢
  refine Calls.callWith_builtin (by show (false || (backTo cpos (starEach es X.env)).any (·.1))=false;rw [hplain] <;> rfl) (Calls.evalArgs_plain ?_)
  exact cV hA fun us s2 ⟨vs,H2,I2,r2,t2,xs,G2,rs,g2,q2⟩=>hm pins s2 σ H2 x xs vx vs v us G2 R Q I2 (rx.mono t2) rs r1 r2 g2 q2 fun v H' d G' t3=>kk v H' d G' ((t1.trans t2).trans t3)
theorem a01 {o:Expr} {to:cB} {name:Str} {apos cpos:Pos} {T id:String} {r3:RM3} (pa:PlainAttrs T) (slot:Slot T name id) (hty:typeOf (.builtin id)=pure (.type "method_descriptor")) (hm:vU X id r3) (ho:cI X o to)
    (hbase:attributeBase o name X.env (eval o X.env)=eval o X.env:=by rfl) (hline:(apos.endLine == cpos.line)=true:=by rfl):cI X (.Call (.Attribute o name apos) [] [] cpos) (adT T r3 to):=by
  intro pins s σ H Q I h _tk
  obtain ⟨ρ,G,R,sr,g,q,kk⟩:=h
  refine wpAny_Call_method0_late hbase hline (cV (ho pins s σ H (fun vx H1=>Ts H H1∧∃ x G1,RD X.K H1 x vx∧HR X.K H1 G1∧yU T G1 x∧r3 x [] G1 R) I ⟨ρ,G,_,sr,g,q,fun v H1 x G1 t1 r1 g1 q1=>⟨t1,x,G1,r1,g1,q1⟩⟩) fun v s1 ⟨vx,H1,I1,r1,t1,x,G1,rx,g1,ty,q1⟩=>?_)
  obtain ⟨h1,h2⟩:=a4F I1 r1 (a4N g1 rx ty)
  exact ⟨T,id,pa,slot,hty,h1,h2,Calls.callWith_builtin rfl (PySem.evalArgs_none (hm pins s1 σ H1 x [] vx [] v [] G1 R Q I1 rx .nil r1 .nil g1 q1 fun v H' d G' t3=>kk v H' d G' (t1.trans t3)))⟩
def lU:RM3:=fun x xs G R=>match x,xs with
  | .ref p,[d]=>(match G p with
    | some (.lst ds)=>ds.length < sizeLine∧R .non (aL G p (.lst (ds++[d])))
    | _=>False)
  | _,_=>False
theorem a6K:vU X "list.append" lU:=vU.of a2O fun H x xs vx vs G R Q rx rs g q k=>by
  cases rx with
  | ref p =>
    cases rs with
    | nil=>exact False.elim q
    | @cons d v ds ws r rr =>
      cases rr with
      | cons _ _=>exact False.elim q
      | nil =>
        have q':(match G p with
          | some (.lst ds)=>ds.length < sizeLine∧R .non (aL G p (.lst (ds++[d])))
          | _=>False):=q
        split at q'
        · rename_i ds e1
          obtain ⟨ys,f1,r1⟩:=g p _ e1
          refine ⟨p,ys,v,rfl,rfl,f1,by rw [← r1.length];exact q'.1,fun _=>?_⟩
          have tt:Ts H (upd H p (.lst (ys++[v]))) := .turn f1 (fun _ z=>nomatch z) (fun _ _ z=>nomatch z)
          exact k _ _ _ _ tt .non (g.turn (u := .lst (ds++[d])) tt ⟨_,aJ,(r1.append (.cons r .nil)).mono tt⟩) q'.2
        · exact q'.elim
  | _=>cases rs <;> exact False.elim q
end
end L2
namespace L2
open PySem
theorem eZ:bootBuiltins "isinstance" = some (.builtin "isinstance"):=by decide +kernel
theorem a87:bootBuiltins "len" = some (.builtin "len"):=by decide +kernel
theorem anN:bootBuiltins "int" = some (.type "int"):=by decide +kernel
theorem ai5:bootBuiltins "bool" = some (.type "bool"):=by decide +kernel
theorem adU:bootBuiltins "str" = some (.type "str"):=by decide +kernel
theorem a6L:bootBuiltins "tuple" = some (.type "tuple"):=by decide +kernel
theorem ai6:bootBuiltins "list" = some (.type "list"):=by decide +kernel
theorem a1W:bootBuiltins "ValueError" = some (.type "ValueError"):=by decide +kernel
end L2
namespace L2
open PySem PySem.Spec PyProof.Rows
def Its (x:Str):It:=⟨fun i _=>i < x.cps.size,fun i H v H'=>H'=H∧∃ c,x.cps[i]?=some c∧v = .str ⟨#[c]⟩,fun i _=>x.cps.size≤i⟩
theorem a2W {cm:Bool} {tl:List (Addr×List V)} {P:Program} {w:World} {K:PySem.W.Frag} {tg:Expr} (it:Addr) (x:Str) (t:Tok):Turn cm tl P w K tg (Its x) [it] it (fun i h=>h.IsStrIter it "str_ascii_iterator" x t (min i x.cps.size)) where
  mem:=by simp
  obj:=fun i h st b hb=>by
    have e:b=it:=by simpa using hb
    subst e
    obtain ⟨o,e,c,d⟩:=st
    exact ⟨o,e,fun v z=>by rw [d] at z;cases z⟩
  keep:=fun i h h' st k=>let ⟨o,e,r⟩:=st;⟨o,k it (by simp) o e,r⟩
  item:=by
    intro X hP hw hK hcm ht i pins s σ H E I hf st hg
    subst hP hw hK
    obtain ⟨f0,f1,f2,f3,f4,f5⟩:=hf it (by simp)
    have hi:i < x.cps.size:=hg
    rw [Nat.min_eq_left (Nat.le_of_lt hi)] at st
    refine wpAny_pyNext_ascii_item st (c:=x.cps[i]) (by simp [hi]) fun h' st' kk=>?_
    have I1:Inv X pins σ H { s with heap:=h',toks:=s.toks+1 }:=I.turned (fun b o hb e=>(kk.2 b hb).trans e) f0 f1 f3 f4 f5
    obtain ⟨o,e1,c1,d1⟩:=id st'
    refine ⟨_,rfl,a5Z (s:={ s with heap:=h',toks:=s.toks+1 }) e1 c1 d1 (by decide) ⟨.str ⟨#[x.cps[i]]⟩,H,I1,⟨_,rfl⟩,⟨rfl,x.cps[i],by simp [hi],rfl⟩,?_,fun b hb=>(hf b hb).1⟩⟩
    rw [Nat.min_eq_left hi]
    exact st'
  done:=by
    intro X hP hw hK hcm ht i pins s σ H E I hf st hg
    subst hP hw hK
    obtain ⟨f0,f1,f2,f3,f4,f5⟩:=hf it (by simp)
    have hi:x.cps.size≤i:=hg
    rw [Nat.min_eq_right hi] at st
    exact ab0 (I.hnd.heap I.hok) st (by simp) fun h' eb=>⟨rfl,I.turned (t':=s.toks) (fun b o hb e=>eb b o hb e) f0 f1 f3 f4 f5⟩
  self:=fun _ _ _ _ _ st h=>wpAny_pyIter_striter_ascii st h
theorem a2X {cm:Bool} {tl:List (Addr×List V)} {P:Program} {w:World} {K:PySem.W.Frag} {tg:Expr} (it:Addr) (x:Str) (t:Tok):Turn cm tl P w K tg (Its x) [it] it (fun i h=>h.IsStrIter it "str_iterator" x t (min i x.cps.size)) where
  mem:=by simp
  obj:=fun i h st b hb=>by
    have e:b=it:=by simpa using hb
    subst e
    obtain ⟨o,e,c,d⟩:=st
    exact ⟨o,e,fun v z=>by rw [d] at z;cases z⟩
  keep:=fun i h h' st k=>let ⟨o,e,r⟩:=st;⟨o,k it (by simp) o e,r⟩
  item:=by
    intro X hP hw hK hcm ht i pins s σ H E I hf st hg
    subst hP hw hK
    obtain ⟨f0,f1,f2,f3,f4,f5⟩:=hf it (by simp)
    have hi:i < x.cps.size:=hg
    rw [Nat.min_eq_left (Nat.le_of_lt hi)] at st
    refine wpAny_pyNext_wide_item st (c:=x.cps[i]) (by simp [hi]) fun h' st' kk=>?_
    have I1:Inv X pins σ H { s with heap:=h',toks:=s.toks+1 }:=I.turned (fun b o hb e=>(kk.2 b hb).trans e) f0 f1 f3 f4 f5
    obtain ⟨o,e1,c1,d1⟩:=id st'
    refine ⟨_,rfl,a5Z (s:={ s with heap:=h',toks:=s.toks+1 }) e1 c1 d1 (by decide) ⟨.str ⟨#[x.cps[i]]⟩,H,I1,⟨_,rfl⟩,⟨rfl,x.cps[i],by simp [hi],rfl⟩,?_,fun b hb=>(hf b hb).1⟩⟩
    rw [Nat.min_eq_left hi]
    exact st'
  done:=by
    intro X hP hw hK hcm ht i pins s σ H E I hf st hg
    subst hP hw hK
    obtain ⟨f0,f1,f2,f3,f4,f5⟩:=hf it (by simp)
    have hi:x.cps.size≤i:=hg
    rw [Nat.min_eq_right hi] at st
    exact ab1 (I.hnd.heap I.hok) st (by simp) fun h' eb=>⟨rfl,I.turned (t':=s.toks) (fun b o hb e=>eb b o hb e) f0 f1 f3 f4 f5⟩
  self:=fun _ _ _ _ _ st h=>wpAny_pyIter_striter_wide st h
inductive Src where
  | lst (p:Addr) (xs:List D) | imm (xs:List D) | zip (p q:Addr) (xs ys:List D) | itm (p:Addr) (o:Obj) (kvs:List (DK×D)) | key (p:Addr) (o:Obj) (t:Bool) (kvs:List (DK×D)) | tpl (p:Addr) (xs:List D) | enu (p:Addr) (xs:List D)
def enm (xs:List D):List D:=xs.zipIdx.map fun z => .tup [.int z.2,z.1]
def prs (xs ys:List D):List D:=(xs.zip ys).map fun z => .tup [z.1,z.2]
def Src.items:Src→List D
  | .lst _ xs=>xs
  | .imm xs=>xs
  | .zip _ _ xs ys=>prs xs ys
  | .itm _ _ kvs=>kvs.map fun z => .tup [dkD z.1,z.2]
  | .key _ _ _ kvs=>kvs.map fun z=>dkD z.1
  | .tpl _ xs=>xs
  | .enu _ xs=>enm xs
def Src.ok (G:Gp):Src→Prop
  | .lst p xs=>bH G p=some xs
  | .imm _=>True
  | .zip p q xs ys=>bH G p=some xs∧bH G q=some ys
  | .itm p o kvs=>G p=some (.rdc o false kvs)
  | .key p o t kvs=>G p=some (.rdc o t kvs)
  | .tpl p xs=>G p=some (.tpl xs)
  | .enu p xs=>G p=some (.tpl xs)
def a6M (K:Fg) (H1:Hp) (src:Src) (J:It):Prop:=∀ H2 G2,Ts H1 H2→HR K H2 G2→src.ok G2 →
  (∀ i,i < src.items.length→J.go i H2)∧(∀ i v H',i < src.items.length→J.yld i H2 v H'→Same H2 H'∧∃ d,src.items[i]?=some d∧RD K H' d v)∧J.stop src.items.length H2
abbrev TI3:=aN→Gp→(Src→Gp→Prop)→Prop
def upI (K:Fg) (t:TI3):TI:=fun σ H Q=>∃ ρ G R,SR K H ρ σ∧HR K H G∧t ρ G R∧∀ src J H' G',Ts H H'→HR K H' G'→a6M K H' src J→R src G'→Q J H'
abbrev PI3 (X:Cx) (tg iter:Expr) (t:TI3):Prop:=PI X tg iter (upI X.K t)
def signs (z:Str):List D:=z.cps.toList.map fun c => .str ⟨#[c]⟩
def uU (te:cB):TI3:=fun ρ G R=>te ρ G fun x G1=>match x with
  | .ref p=>(match bH G1 p with
    | some xs=>R (.lst p xs) G1
    | none=>False)
  | .tup xs=>R (.imm xs) G1
  | .str z=>R (.imm (signs z)) G1
  | _=>False
theorem a2Y {K:Fg} {H1:Hp} {p:Addr} {xs:List D}:a6M K H1 (.lst p xs) (Itl K p):=fun H2 G2 t g ok=>by
  obtain ⟨vs,hq,rv⟩:=cA g (show bH G2 p=some xs from ok)
  refine ⟨fun i hi=>?_,fun i v H' hi hy=>?_,⟨vs,hq,Nat.le_of_eq rv.length.symm⟩⟩
  · have hi':i < xs.length:=hi
    obtain ⟨y,e1,_⟩:=rv.get (List.getElem?_eq_getElem hi')
    exact ⟨vs,y,hq,e1⟩
  · obtain ⟨rfl,hy⟩:=hy
    obtain ⟨d,e1,e2⟩:=rv.ahM (hy vs hq)
    exact ⟨.refl _,d,e1,e2⟩
theorem a6O {K:Fg} {H1:Hp} {a:Addr} {vs:List V} {xs:List D} (hq:rD K H1 a vs) (rv:bM K H1 xs vs):a6M K H1 (.imm xs) (Itt K a):=fun H2 G2 t g ok=>by
  have hq2:=t.sqT hq
  have rv2:=rv.mono t
  refine ⟨fun i hi=>?_,fun i v H' hi hy=>?_,⟨vs,hq2,Nat.le_of_eq rv.length.symm⟩⟩
  · have hi':i < xs.length:=hi
    obtain ⟨y,e1,_⟩:=rv2.get (List.getElem?_eq_getElem hi')
    exact ⟨vs,y,hq2,e1⟩
  · obtain ⟨rfl,hy⟩:=hy
    obtain ⟨d,e1,e2⟩:=rv2.ahM (hy vs hq2)
    exact ⟨.refl _,d,e1,e2⟩
theorem a03 {K:Fg} {H1:Hp} {z:Str}:a6M K H1 (.imm (signs z)) (Its z):=fun H2 G2 t g ok=>by
  have hl:(signs z).length=z.cps.size:=by simp [signs]
  refine ⟨fun i hi=>?_,fun i v H' hi hy=>?_,?_⟩
  · have:i < (signs z).length:=hi
    rw [hl] at this
    exact this
  · obtain ⟨rfl,c,hc,rfl⟩:=hy
    exact ⟨.refl _,.str ⟨#[c]⟩,by simp [Src.items,signs,hc],.str _⟩
  · show z.cps.size≤(signs z).length
    rw [hl];exact Nat.le_refl _
theorem a6P {K:Fg} {H1:Hp} {lo:Int} {n:Nat}:a6M K H1 (.imm ((List.range n).map fun (i:Nat) => .int (lo+(i:Int)))) (Itr lo n):=fun H2 G2 t g ok=>by
  refine ⟨fun i hi=>?_,fun i v H' hi hy=>?_,?_⟩
  · have hi':i < n:=by simpa [Src.items] using hi
    exact hi'
  · obtain ⟨rfl,rfl⟩:=hy
    have hi':i < n:=by simpa [Src.items] using hi
    exact ⟨.refl _,.int (lo+i),by simp [Src.items,hi'],.int _⟩
  · show n≤_
    simp [Src.items]
section
variable {X:Cx} {tg:Expr}
theorem PI.imp {e:Expr} {t t':TI} (h:PI X tg e t) (k:∀ σ H Q,t' σ H Q→t σ H Q):PI X tg e t':=fun pins s σ H Q I q=>h pins s σ H Q I (k _ _ _ q)
theorem asL {l:Expr} {te:cB} (hl:cI X l te):PI3 X tg l (uU te):=by
  intro pins s σ H R I h _tk
  obtain ⟨ρ,G,R3,sr,g,q,k⟩:=h
  refine cV (hl pins s σ H (fun v H1=>Ts H H1∧∃ x G1,RD X.K H1 x v∧HR X.K H1 G1∧(match x with
    | .ref p=>(match bH G1 p with
      | some xs=>R3 (.lst p xs) G1
      | none=>False)
    | .tup xs=>R3 (.imm xs) G1
    | .str z=>R3 (.imm (signs z)) G1
    | _=>False)) I ⟨ρ,G,_,sr,g,q,fun v H1 x G1 t1 r g1 q1=>⟨t1,x,G1,r,g1,q1⟩⟩) fun v s1 ⟨x,H1,I1,r1,t1,d,G1,rd,g1,q1⟩=>?_
  cases rd with
  | ref a =>
    have q1':(match bH G1 a with
      | some xs=>R3 (.lst a xs) G1
      | none=>False):=q1
    split at q1'
    · rename_i xs e
      cases r1
      obtain ⟨vs,hq,rv⟩:=cA g1 e
      obtain ⟨its,rv',p,hz⟩:=I1.list hq
      refine wpAny_pyIter_list p.isList ?_
      refine ⟨s1.heap.objs.size,[s1.heap.objs.size],_,_,H1,rfl,I1.kept (t':=s1.toks) fun b o e=>Heap.get?_push_of_some _ e,a2I a _,⟨_,Heap.get?_push_size _ rfl,rfl,rfl⟩,fun b hb=>?_,k _ _ H1 G1 t1 g1 a2Y q1'⟩
      have e:b=s1.heap.objs.size:=by simpa using hb
      subst e
      exact I1.a3U (Nat.le_refl _) (I1.hok.fresh (Nat.le_refl _))
    · exact q1'.elim
  | @tup a vs xs hq rv =>
    cases r1
    obtain ⟨its,rv',p,hz⟩:=I1.tuple hq
    refine wpAny_pyIter_tuple (show s1.heap.IsTuple a its.toArray from p) ?_
    refine ⟨s1.heap.objs.size,[s1.heap.objs.size],_,_,H1,rfl,I1.kept (t':=s1.toks) fun b o e=>Heap.get?_push_of_some _ e,zN a _,⟨_,Heap.get?_push_size _ rfl,rfl,rfl⟩,fun b hb=>?_,k _ _ H1 G1 t1 g1 (a6O hq rv) q1⟩
    have e:b=s1.heap.objs.size:=by simpa using hb
    subst e
    exact I1.a3U (Nat.le_refl _) (I1.hok.fresh (Nat.le_refl _))
  | str z =>
    obtain ⟨t,rfl⟩:=r1
    cases ha:z.cps.all (· < 128)
    · refine wpAny_pyIter_wide ha ?_
      refine ⟨s1.heap.objs.size,[s1.heap.objs.size],_,_,H1,rfl,I1.kept (t':=s1.toks) fun b o e=>Heap.get?_push_of_some _ e,a2X _ z t,?_,fun b hb=>?_,k _ _ H1 G1 t1 g1 a03 q1⟩
      · rw [Nat.zero_min];exact ⟨_,Heap.get?_push_size _ rfl,rfl,rfl⟩
      · have e:b=s1.heap.objs.size:=by simpa using hb
        subst e
        exact I1.a3U (Nat.le_refl _) (I1.hok.fresh (Nat.le_refl _))
    · refine wpAny_pyIter_ascii ha ?_
      refine ⟨s1.heap.objs.size,[s1.heap.objs.size],_,_,H1,rfl,I1.kept (t':=s1.toks) fun b o e=>Heap.get?_push_of_some _ e,a2W _ z t,?_,fun b hb=>?_,k _ _ H1 G1 t1 g1 a03 q1⟩
      · rw [Nat.zero_min];exact ⟨_,Heap.get?_push_size _ rfl,rfl,rfl⟩
      · have e:b=s1.heap.objs.size:=by simpa using hb
        subst e
        exact I1.a3U (Nat.le_refl _) (I1.hok.fresh (Nat.le_refl _))
  | _=>exact q1.elim
def a1X (lo hi:Int):List D:=(List.range (hi - lo).toNat).map fun (i:Nat) => .int (lo+(i:Int))
def xB (ta:n6):TI3:=fun ρ G R=>ta ρ G fun xs G1=>match xs with
  | [.int j]=>-(2 ^ 62)≤j∧j < 2 ^ 62∧R (.imm (a1X 0 j)) G1
  | _=>False
theorem anP {a:Expr} {ta:n6} {p pos:Pos} (hg:Gl X "range") (hm:X.mg "range" = none) (ha:PA3 X [a] ta) (hs:starEach [a] X.env=[(false,eval a X.env)]):PI3 X tg (.Call (.Name "range" p) [a] [] pos) (xB ta) :=
  PI.imp (a2J hg hm ha hs) fun σ H Q h=>by
  obtain ⟨ρ,G,R,s,g,q,k⟩:=h
  refine ⟨ρ,G,_,s,g,q,fun vs H1 ds G1 t1 r g1 h1=>?_⟩
  cases r with
  | nil=>exact h1.elim
  | cons r rr =>
    cases rr with
    | cons _ _=>cases r <;> exact False.elim h1
    | nil =>
      cases r with
      | int j =>
        obtain ⟨l1,l2,h1⟩:=h1
        refine ⟨j,rfl,l1,l2,k _ _ H1 G1 t1 g1 ?_ h1⟩
        unfold a1X
        rw [show (j - 0).toNat=j.toNat by omega]
        exact a6P
      | _=>exact False.elim h1
end
end L2
namespace L2
open PySem PySem.Spec PyProof.Rows
def lV (cells:List (Str×Addr)):List (Str×NameKind)→List (Str×Addr)→List (Str×Addr)
  | [],cs=>cs
  | (n,k) :: r,cs=>lV cells r (if k = .free then (match cells.lookup n with
    | some a=>(n,a) :: cs
    | none=>cs) else cs)
theorem oG {scope:Scope} {env:Env} (h:∀ y∈scope.names,y.2 = .free→∃ c,env.cells.lookup y.1=some c):closureFor scope env=pure (lV env.cells scope.names []):=by
  unfold closureFor
  have all:∀ (l:List (Str×NameKind)) (cs:List (Str×Addr)),(∀ y∈l,y.2 = .free→∃ c,env.cells.lookup y.1=some c) →
      (forIn l cs fun (x:Str×NameKind) (r:List (Str×Addr))=>(if (x.2 == NameKind.free)=true then do
        let a ← cellOf env x.1
        pure (ForInStep.yield ((x.1,a) :: r)) else pure (ForInStep.yield r):Sem (ForInStep (List (Str×Addr)))))=(pure (lV env.cells l cs):Sem (List (Str×Addr))):=by
    intro l
    induction l with
    | nil=>intro cs _;rfl
    | cons y r ih =>
      intro cs hl
      obtain ⟨n,k⟩:=y
      rw [List.forIn_cons]
      by_cases hk:k = .free
      · subst hk
        obtain ⟨c,hc⟩:=hl (n,.free) (by simp) rfl
        have e:cellOf env n=pure c:=by unfold cellOf;rw [hc]
        simp only [beq_self_eq_true,if_true,e]
        show (forIn r ((n,c) :: cs) _:Sem _)=_
        rw [ih _ fun y hy=>hl y (by simp [hy])]
        simp only [lV,if_true,hc]
      · have hk':(k == NameKind.free)=false:=by simpa using hk
        simp only [hk',Bool.false_eq_true,if_false]
        show (forIn r cs _:Sem _)=_
        rw [ih _ fun y hy=>hl y (by simp [hy])]
        simp only [lV,if_neg hk]
  have z:=all scope.names [] h
  exact congrArg (fun m=>m >>= fun cs=>pure cs) z
theorem fK {cells:List (Str×Addr)}:∀ {l:List (Str×NameKind)} {cs:List (Str×Addr)} {y:Str} {c:Addr},(lV cells l cs).lookup y=some c→(∀ c,cs.lookup y=some c→cells.lookup y=some c)→cells.lookup y=some c
  | [],cs,y,c,h,k=>k c h
  | (n,kd) :: r,cs,y,c,h,k=>by
    unfold lV at h
    refine fK h fun c' h'=>?_
    by_cases hk:kd = .free
    · rw [if_pos hk] at h'
      split at h'
      · rename_i a ha
        rw [List.lookup_cons] at h'
        split at h'
        · rename_i e
          have e':y=n:=beq_iff_eq.mp e
          subst e'
          rw [ha];exact h'
        · exact k c' h'
      · exact k c' h'
    · rw [if_neg hk] at h'
      exact k c' h'
theorem a04 {cells:List (Str×Addr)}:∀ {l:List (Str×NameKind)} {cs:List (Str×Addr)} {y:Str},(∃ c,cs.lookup y=some c)→∃ c,(lV cells l cs).lookup y=some c
  | [],cs,y,h=>h
  | (n,kd) :: r,cs,y,h=>by
    unfold lV
    refine a04 ?_
    by_cases hk:kd = .free
    · rw [if_pos hk]
      split
      · rw [List.lookup_cons]
        split
        · exact ⟨_,rfl⟩
        · exact h
      · exact h
    · rw [if_neg hk];exact h
theorem xC {cells:List (Str×Addr)} {y:Str} {c:Addr} (hc:cells.lookup y=some c):∀ {l:List (Str×NameKind)} {cs:List (Str×Addr)},(y,NameKind.free)∈l→∃ c,(lV cells l cs).lookup y=some c
  | [],cs,h=>by simp at h
  | (n,kd) :: r,cs,h=>by
    unfold lV
    rcases List.mem_cons.mp h with e | h
    · cases e
      refine a04 ?_
      rw [if_pos rfl,hc]
      simp
    · exact xC hc h
theorem mem_of_lookup {α:Type}:∀ {l:List (Str×α)} {y:Str} {k:α},l.lookup y=some k→(y,k)∈l
  | [],_,_,h=>by simp at h
  | (n,kd) :: r,y,k,h=>by
    rw [List.lookup_cons] at h
    split at h
    · rename_i e
      have e':y=n:=beq_iff_eq.mp e
      cases h;subst e';simp
    · exact List.mem_cons_of_mem _ (mem_of_lookup h)
structure pU (X:Cx) (xs:List Str) (scope:Scope):Prop where
  kind:scope.kind = .function
  a88:∀ y∈scope.names,y.2 ≠ .cell
  locs:∀ y∈scope.names,y.2 = .local→scope.names.lookup y.1=some .local
  var:∀ x∈xs,scope.names.lookup x=some .local
  frees:∀ y∈scope.names,y.2 = .free→X.env.kindOf y.1=some .cell∨X.env.kindOf y.1=some .free
  out:∀ x∈xs,x ∉ X.N
  nd:xs.Nodup
  only:∀ y∈X.N,scope.names.lookup y≠some .local
abbrev fW (X:Cx) (xs:List Str) (scope:Scope) (C:Addr) (s₃:Shared) (H₃:Hp) (fp:List Addr) (pins:List (Addr×Obj)):Cx :=
  { X with N:=xs++X.N,s₀:=s₃,H₀:=H₃,env:=compEnvC scope (lV X.env.cells scope.names []) C X.env,outer:=X.stack,stack:=X.stack,ex:=fp,fn:=fun _=>false,pn:=X.pn++pins,xe:=fun _ _=>False,need:=false }
def nn (xs:List Str) (σ:St):St:=xs.map (fun _=>none)++σ
theorem adV {xs:List Str} {σ:St} {i:Nat} {v:V} (h:(nn xs σ)[i]?=some (some v)):∃ j,i=xs.length+j∧σ[j]?=some (some v):=by
  unfold nn at h
  by_cases c:i < xs.length
  · rw [List.getElem?_append_left (by simpa using c)] at h
    simp at h
  · rw [List.getElem?_append_right (by simpa using c)] at h
    exact ⟨i - xs.length,by omega,by simpa using h⟩
theorem a9P {α:Type} {xs ys:List α} {j:Nat}:(xs++ys)[xs.length+j]?=ys[j]?:=by
  rw [List.getElem?_append_right (by omega)]
  congr 1
  omega
theorem cW {env:Env} {y:Str} {k:NameKind}:∀ {names:List (Str×NameKind)},(names.map fun (n,k)=>if (k == .free&&env.scope.kind == .function&&env.kindOf n == some .cell) then (n,.cell) else (n,k)).lookup y=some k →
    ∃ k',names.lookup y=some k'∧(k=k'∨(k = .cell∧k' = .free))
  | [],h=>by simp at h
  | (n,kd) :: r,h=>by
    rw [List.map_cons] at h
    by_cases hc:(kd == .free&&env.scope.kind == .function&&env.kindOf n == some .cell)=true
    · have h':List.lookup y ((n,NameKind.cell) :: (r.map fun (n,k)=>if (k == .free&&env.scope.kind == .function&&env.kindOf n == some .cell) then (n,.cell) else (n,k)))=some k:=by
        simp only [hc,if_true] at h;exact h
      rw [List.lookup_cons] at h' ⊢
      cases hx:y == n with
      | true =>
        rw [hx] at h'
        cases h'
        refine ⟨kd,rfl,.inr ⟨rfl,?_⟩⟩
        simp only [Bool.and_eq_true,beq_iff_eq] at hc
        exact hc.1.1
      | false =>
        rw [hx] at h'
        exact cW h'
    · have h':List.lookup y ((n,kd) :: (r.map fun (n,k)=>if (k == .free&&env.scope.kind == .function&&env.kindOf n == some .cell) then (n,.cell) else (n,k)))=some k:=by
        simp only [hc,if_false] at h
        exact h
      rw [List.lookup_cons] at h' ⊢
      cases hx:y == n with
      | true =>
        rw [hx] at h'
        cases h'
        exact ⟨_,rfl,.inl rfl⟩
      | false =>
        rw [hx] at h'
        exact cW h'
end L2
namespace L2
open PySem PySem.Spec PyProof.Rows
section
variable {X:Cx} {xs:List Str} {scope:Scope} {C:Addr} {pins:List (Addr×Obj)} {σ:St} {H H₃:Hp} {s s₃:Shared} {fp:List Addr}
theorem a4P (I:Inv X pins σ H s) {b:Addr} (hb:b∈frs X.stack):b=X.env.locals∨b∈X.fs:=List.mem_cons.mp (I.a7U b hb)
theorem anQ (I:Inv X pins σ H s) (c:pU X xs scope) (hC:s.heap.objs.size≤C) (hf:∀ b∈fp,yP X pins H b∧b < s.heap.objs.size):(fW X xs scope C s H fp pins).Ok where
  mod:=I.ok.mod
  kind:=c.kind
  glob:=I.ok.glob
  blt:=I.ok.blt
  above:=hC
  inj:=fun y z d h1 h2=>I.ok.inj y z d (fK h1 fun _ h=>by simp at h) (fK h2 fun _ h=>by simp at h)
  has:=fun y h=>by
    have hy:(y,NameKind.free)∈scope.names:=by
      rcases h with h | h
      · obtain ⟨k',e,z⟩:=cW (env:=X.env) (names:=scope.names) h
        rcases z with z | ⟨_,z⟩
        · subst z
          exact absurd rfl (c.a88 _ (mem_of_lookup e))
        · subst z;exact mem_of_lookup e
      · obtain ⟨k',e,z⟩:=cW (env:=X.env) (names:=scope.names) h
        rcases z with z | ⟨z,_⟩
        · subst z;exact mem_of_lookup e
        · cases z
    obtain ⟨d,hd⟩:=I.ok.has y (c.frees _ hy rfl)
    exact xC hd hy
  cab:=fun _ _ h=>absurd h (by simp)
  hd:=I.ok.hd
  frames:=I.ok.frames
  stk := .inl rfl
  exf:=fun b hb=>by
    obtain ⟨⟨f0,f1,f2,f3,f4,f5⟩,lt⟩:=hf b hb
    exact ⟨Nat.ne_of_lt (Nat.lt_of_lt_of_le lt hC),fun y d h=>f4 y d (fK h fun _ h=>by simp at h)⟩
  bs:=fun b o e=>I.bs b o e
  bsz:=Nat.le_trans I.ok.bsz I.sz
  yO:=fun b o e hb=>by
    obtain ⟨⟨f0,f1,f2,f3,f4,f5⟩,lt⟩:=hf b hb
    rcases f3 with z | z
    · exact I.ok.yO b o e z
    · exact absurd (Nat.lt_of_lt_of_le (Heap.lt_size e) (Nat.le_trans I.ok.bsz z)) (Nat.lt_irrefl _)
  zL:=fun b hb hs=>by
    obtain ⟨⟨f0,f1,f2,f3,f4,f5⟩,lt⟩:=hf b hb
    rcases a4P I hs with z | z
    · exact f1 z
    · exact f2 z
  lK:=I.stack
  frf:=fun b hb=>I.a3R b hb
theorem anR (I:Inv X pins σ H s) (c:pU X xs scope) (hC:s.heap.objs.size=C) (hf:∀ b∈fp,yP X pins H b∧b < s.heap.objs.size) {h₁:Heap} {m:Str→Option Value} {tk:Nat} (hn:h₁.Ns C m) (hk:∀ b o,s.heap.get? b=some o→h₁.get? b=some o) :
    Inv (fW X xs scope C s H fp pins) [] (nn xs σ) H { s with heap:=h₁,toks:=tk }:=by
  have lt:∀ b o,s.heap.get? b=some o→b≠C:=fun b o e=>by rw [← hC];exact Nat.ne_of_lt (Heap.lt_size e)
  refine ⟨anQ I c (Nat.le_of_eq hC) hf,rfl,I.bare,Un.kept hk,⟨m,hn,fun i y v e1 e2 e3=>?_⟩,fun y d e=>?_,I.hok.fresh (Nat.le_of_eq hC),fun y d e=>I.fG y d (fK e fun _ h=>by simp at h),fun p hp=>?_,I.hok.kept hk,by simp [nn,I.len],I.hnd,I.tup⟩
  · obtain ⟨i,rfl,e2'⟩:=adV e2
    · have e1':X.N[i]?=some y:=a9P.symm.trans e1
      have hy:y∈X.N:=List.mem_of_getElem? e1'
      have free:(y,NameKind.free)∈scope.names:=by
        have e3':∃ k,(relabel scope X.env).names.lookup y=some k∧(k = .local∨k = .cell∨k = .free):=by
          rcases e3 with h | h | h
          · exact ⟨_,h,.inl rfl⟩
          · exact ⟨_,h,.inr (.inl rfl)⟩
          · exact ⟨_,h,.inr (.inr rfl)⟩
        obtain ⟨k,h,hk⟩:=e3'
        obtain ⟨k',e,z⟩:=cW (env:=X.env) (names:=scope.names) h
        rcases z with z | ⟨_,z⟩
        · subst z
          rcases hk with rfl | rfl | rfl
          · exact absurd e (c.only y hy)
          · exact absurd rfl (c.a88 _ (mem_of_lookup e))
          · exact mem_of_lookup e
        · subst z;exact mem_of_lookup e
      have hkd:=c.frees _ free rfl
      obtain ⟨m',hn',hlo⟩:=I.loc
      have vis:Vis X.env.scope y:=hkd.elim (fun z => .inr (.inl z)) fun z => .inr (.inr z)
      obtain ⟨u,r,l⟩:=hlo i y v e1' e2' vis
      refine ⟨u,r,.inr ⟨?_,?_⟩⟩
      · rcases e3 with h | h | h
        · obtain ⟨k',e,z⟩:=cW (env:=X.env) (names:=scope.names) h
          rcases z with z | ⟨z,_⟩
          · subst z;exact absurd e (c.only y hy)
          · cases z
        · exact .inl h
        · exact .inr h
      · rcases l with ⟨hl,_⟩ | ⟨_,d,hd,hcell⟩
        · rcases hkd with z | z
          · rw [z] at hl;cases hl
          · rw [z] at hl;cases hl
        · obtain ⟨d',hd'⟩:=xC (cells:=X.env.cells) (l:=scope.names) (cs:=[]) hd free
          have:=fK hd' fun _ h=>by simp at h
          rw [hd] at this;cases this
          refine ⟨d,hd',?_⟩
          obtain ⟨o,ho,hod⟩:=hcell
          exact ⟨o,hk _ _ ho,hod⟩
  · obtain ⟨w,o,ho,hod⟩:=I.cell y d (fK e fun _ h=>by simp at h)
    exact ⟨w,o,hk _ _ ho,hod⟩
  · have hp':p∈X.pn++pins:=by simpa using hp
    obtain ⟨e,n,ne,nf,d⟩:=I.pin p hp'
    refine ⟨hk _ _ e,n,lt _ _ e,fun z=>?_,d⟩
    rcases a4P I z with z | z
    · exact ne z
    · exact nf z
theorem ai7 (I:Inv X pins σ H s) (hC:s.heap.objs.size=C) (hf:∀ b∈fp,yP X pins H b∧b < s.heap.objs.size) {rC:List (Addr×Obj)} {σ':St} {H':Hp} {s':Shared} {h':Heap} {tk:Nat} (J:Inv (fW X xs scope C s H fp pins) rC σ' H' s') (hs:Heap.SameBut C s'.heap h') :
    Inv X pins σ H' { s' with heap:=h',toks:=tk }:=by
  have ne:∀ b o,s.heap.get? b=some o→b≠C:=fun b o e=>by rw [← hC];exact Nat.ne_of_lt (Heap.lt_size e)
  have u:Un (frs X.stack) fp H H' s.heap s'.heap:=J.base
  have hfree:H' C=none:=J.free
  refine I.call' (ch:=fp) J.os ⟨fun b o e n hb hx=>?_,fun b o e n hb hx=>?_,u.free,fun b o e hx=>?_,u.tups,u.d9,u.jO⟩ (fun b o e=>?_) J.bare (fun b hb=>?_)
  · exact (hs.2 b (ne b o e)).trans (u.keep b o e n hb hx)
  · obtain ⟨sl,e1⟩:=u.slot b o e n hb hx
    exact ⟨sl,(hs.2 b (ne b o e)).trans e1⟩
  · obtain ⟨o',e1⟩:=u.there b o e hx
    exact ⟨o',(hs.2 b (ne b o e)).trans e1⟩
  · refine (J.hok b o e).stay (fun d w hd q=>(hs.2 d ?_).trans q) (fun _ q=>q) fun _ _ q=>q
    rintro rfl
    rcases hd with z | z
    · rw [z] at hfree;rw [e] at hfree;cases hfree
    · rw [hfree] at z;cases z
  · obtain ⟨⟨f0,f1,f2,f3,f4,f5⟩,lt⟩:=hf b hb
    exact ⟨f3,f1,f4,f5⟩
end
end L2
namespace L2
open PySem PySem.Spec PyProof.Rows
def xD:uM:=fun _ G R=>R true G
def abO (X:Cx) (ifs:List Expr) (tc:uM):Prop :=
  ∀ (pins:List (Addr×Obj)) (s:Shared) (σ:St) (H:Hp) (Q:Bool→Hp→Prop),Inv X pins σ H s→upT X.K tc σ H Q→[Tk X.need s] →
    wpAny (model X.prog X.w) X.A (forIn ifs true fun c r=>if r=true then do let ok ← isTrue c X.env (eval c X.env);pure (ForInStep.yield ok) else pure (ForInStep.yield r)) (TP X pins σ Q) X.xe s
theorem ai8 {X:Cx}:abO X [] xD:=fun pins s σ H Q I h=>by
  obtain ⟨ρ,G,R,sr,g,q,k⟩:=h
  exact wpAny_pure ⟨H,I,k true H G (.refl H) g q⟩
theorem ai9 {X:Cx} {c:Expr} {tc:uM} (hc:PT3 X c tc):abO X [c] tc:=fun pins s σ H Q I h=>by
  rw [List.forIn_cons]
  simp only [if_true]
  refine wpAny_bind (wpAny_bind (cV (hc pins s σ H Q I h) fun b s1 q=>?_))
  intro aqA
  exact wpAny_pure (wpAny_pure q)
section
variable {X:Cx} {x:Str} {xs:List Str} {tgt:Expr} {dv:D→Option (List D)} {scope:Scope} {iter elt:Expr} {ifs:List Expr} {px pos:Pos} {ti:TI3} {tc:uM} {te:cB}
structure aiA (X:Cx) (pins:List (Addr×Obj)) (H':Hp) (C:Addr) (h:Heap):Prop where
  ns:∃ m,h.Ns C m
  free:H' C=none
  loc:C≠X.env.locals
  young:X.s₀.heap.objs.size≤C
  cells:∀ y d,X.env.cells.lookup y=some d→d≠C
  pins:∀ p∈X.pn++pins,p.1≠C
theorem aiA.turn {X:Cx} {pins:List (Addr×Obj)} {σ:St} {H':Hp} {C:Addr} {s:Shared} (o:aiA X pins H' C s.heap) (I:Inv X pins σ H' s) {h':Heap} (hs:Heap.SameBut C s.heap h'):Inv X pins σ H' { s with heap:=h' } :=
  I.turned (t':=s.toks) (fun b ob hb e=>(hs.2 b hb).trans e) o.free o.loc (.inr o.young) o.cells o.pins
def adW (Y:Cx) (tgt:Expr) (xs:List Str) (dv:D→Option (List D)) (σ:St):Prop:=∀ (pins:List (Addr×Obj)) (s:Shared) (H:Hp) (v:V) (u:Value) (d:D) (ds:List D),Inv Y pins (nn xs σ) H s→RelV v u→RD Y.K H d v→dv d=some ds →
  wpAny (model Y.prog Y.w) Y.A (assign tgt Y.env u) (fun _ s'=>∃ vs,bM Y.K H ds vs∧Inv Y pins (vs.map some++σ) H s') Y.xe s
theorem adX {K:Fg} {H:Hp} {ρ:aN} {σ:St} (s:SR K H ρ σ):∀ {ds:List D} {vs:List V},bM K H ds vs→SR K H (ds.map some++ρ) (vs.map some++σ)
  | _,_,.nil=>s
  | _,_,.cons h r => .some h (adX s r)
theorem adY {prog:Program} {w:World} {A:Around} {R:Result→Shared→Prop} {s:Shared} {elt target iter:Expr} {ifs:List Expr} {scope:Scope} {pos:Pos} {it acc:Value} {env:Env} (J:Nat→Shared→Prop)
    (turn:∀ n s,J n s→wpAny (model prog w) A (pyNext it) (fun r s1=>match r with
      | none=>R (.ok .next) s1
      | some v=>wpAny (model prog w) A (letOwnedTupleGo target it v) (fun _ s1'=>wpAny (model prog w) A (assign target env v) (fun _ s2 =>
          wpAny (model prog w) A (forIn ifs true fun c r=>if r=true then do let ok ← isTrue c env (eval c env);pure (ForInStep.yield ok) else pure (ForInStep.yield r)) (fun ok s3 =>
            if ok=true then wpAny (model prog w) A (eval elt env) (fun x s4 =>
              wpAny (model prog w) A (call (.builtin "list.append") [acc,x]) (fun _ s5=>∃ m,m < n∧J m s5) (notedBy (model prog w) A env fun e s'=>R (.error e) s') s4) (notedBy (model prog w) A env fun e s'=>R (.error e) s') s3
            else ∃ m,m < n∧J m s3) (notedBy (model prog w) A env fun e s'=>R (.error e) s') s2) (notedBy (model prog w) A env fun e s'=>R (.error e) s') s1') (notedBy (model prog w) A env fun e s'=>R (.error e) s') s1) (notedBy (model prog w) A env fun e s'=>R (.error e) s') s)
    (n:Nat) (h:J n s):codeAny (model prog w) A (.compLoop (.ListComp elt [⟨target,iter,ifs,0⟩] scope pos) 0 it acc env) R s:=by
  refine codeAny_loop rfl J (fun n s hJ=>?_) n h
  show wpAny _ A ((compTurn (.ListComp elt [⟨target,iter,ifs,0⟩] scope pos) 0 it acc env).onRaise (fun z=>do noteFrame z env;theTreesLotGoes z)) _ _ s
  refine wpAny_noted ?_
  rw [compTurn_list]
  refine wpAny_bind (wpAny_standAt (wpAny_bind (wpAny_mono (turn n s hJ) (fun r s1 h1=>?_) fun _ _ z=>z)))
  cases r with
  | none=>exact wpAny_pure h1
  | some v =>
    refine wpAny_bind (wpAny_mono h1 (fun _ s1' h1'=>?_) fun _ _ z=>z)
    refine wpAny_bind (wpAny_mono h1' (fun _ s2 h2=>wpAny_bind (wpAny_mono h2 (fun ok s3 h3=>?_) fun _ _ z=>z)) fun _ _ z=>z)
    cases ok with
    | false=>exact wpAny_pure ⟨rfl,h3⟩
    | true=>exact wpAny_bind (wpAny_bind (wpAny_mono h3 (fun x s4 h4=>wpAny_bind (wpAny_mono h4 (fun _ s5 h5=>wpAny_pure (wpAny_pure ⟨rfl,h5⟩)) fun _ _ z=>z)) fun _ _ z=>z))
theorem a2Z (c:pU X xs scope) (hT:∀ C s H fp pins σ,adW (fW X xs scope C s H fp pins) tgt xs dv σ) (hdv:∀ d ds,dv d=some ds→ds.length=xs.length) (hc:∀ C s H fp pins,abO (fW X xs scope C s H fp pins) ifs tc) (he:∀ C s H fp pins,cI (fW X xs scope C s H fp pins) elt te)
    {pins:List (Addr×Obj)} {s2:Shared} {σ:St} {H H2:Hp} {ρ:aN} {G1:Gp} {R:dG} {it:Addr} {fp:List Addr} {tn:Nat→Heap→Prop} {J:It} {src:Src} {RR:Value→Addr→Result→Shared→Prop} (sr:SR X.K H ρ σ) (I2:Inv X pins σ H2 s2) (T:Turn X.calm X.tp X.prog X.w X.K tgt J fp it tn) (st2:tn 0 s2.heap) (f2:∀ b∈fp,yP X pins H2 b) (t1:Ts H H2) (g1:HR X.K H2 G1) (sj:a6M X.K H2 src J)
    (hlen:src.items.length < sizeLine) (body:∀ p,G1 p=none→∃ P:Nat→List D→Gp→Prop,P 0 [] (aL G1 p (.lst [])) ∧
      (∀ k ds G,k≤src.items.length→P k ds G→src.ok G∧G p=some (.lst ds)∧ds.length≤k) ∧
      (∀ k d ds G,src.items[k]?=some d→P k ds G→∃ ys,dv d=some ys∧tc (ys.map some++ρ) G fun b G2=>if b=true then te (ys.map some++ρ) G2 fun y G3=>G3 p=some (.lst ds)∧P (k+1) (ds++[y]) (aL G3 p (.lst (ds++[y]))) else P (k+1) ds G2) ∧
      ∀ ds G,P src.items.length ds G→∃ G0,Le G0 G∧R (.ref p) G0)
    (hRR:∀ Da C s5 H' G0,Inv X pins σ H' s5→aiA X pins H' C s5.heap→Ts H H'→HR X.K H' G0→R (.ref Da) G0→RR (.ref Da) C (.ok .next) s5) :
    wpAny (model X.prog X.w) X.A (newList []) (fun acc s₃=>wpAny (model X.prog X.w) X.A (newFunctionEnv scope X.env.globals (lV X.env.cells scope.names []) [] X.env.qual none .none (some X.env)) (fun cenv s₄ =>
      codeAny (model X.prog X.w) X.A (.compStart (.ListComp elt [⟨tgt,iter,ifs,0⟩] scope pos) 0 (.ref it) acc { cenv with scope:=relabel scope X.env }) (RR acc cenv.locals) s₄) X.xe s₃) X.xe s2:=by
  refine wpAny_newObj_type ?_
  have I3:=I2.ar7 (its:=[]) (ys:=[]) (t':=s2.toks) .nil (by decide)
  have hD:H2 s2.heap.objs.size=none:=I2.fresh
  have kf:=rK I3
  have gD:G1 s2.heap.objs.size=none:=lQ g1 hD kf
  obtain ⟨P,p0,pok,pst,pend⟩:=body _ gD
  have ltD:∀ b∈fp,b < s2.heap.objs.size:=fun b hb=>by
    obtain ⟨o,e,_⟩:=T.obj 0 _ st2 b hb
    exact Heap.lt_size e
  have hsz3:(s2.heap.push { cls := .type "list",data := .seq ([]:List Value).toArray }).objs.size=s2.heap.objs.size+1:=Heap.size_push ..
  have hf3:∀ b∈fp,yP X pins (upd H2 s2.heap.objs.size (.lst [])) b∧b < (s2.heap.push { cls := .type "list",data := .seq ([]:List Value).toArray }).objs.size:=fun b hb=>by
    obtain ⟨f0,fr⟩:=f2 b hb
    exact ⟨⟨by rw [aK (Nat.ne_of_lt (ltD b hb))];exact f0,fr⟩,by rw [hsz3];exact Nat.lt_succ_of_lt (ltD b hb)⟩
  refine wpAny_newFunctionEnv c.a88 (by intro y hy;simp at hy) (fun h₁ hns₁ hsb₁=>?_) c.kind
  dsimp only at hns₁ hsb₁ ⊢
  generalize hH3:s2.heap.push { cls := .type "list",data := .seq ([]:List Value).toArray }=h3 at *
  generalize hDe:s2.heap.objs.size=Da at *
  have akV:∀ b o,h3.get? b=some o→h₁.get? b=some o:=fun b o e=>hsb₁.extBut b o (Nat.ne_of_lt (Heap.lt_size e)) (Heap.get?_push_of_some _ e)
  show codeAny (model X.prog X.w) X.A (Code.compStart (elt.ListComp [{ target:=tgt,iter:=iter,ifs:=ifs,is_async:=0 }] scope pos) 0 (Value.ref it) (Value.ref Da) (compEnvC scope (lV X.env.cells scope.names []) h3.objs.size X.env))
    (RR (.ref Da) h3.objs.size) { s2 with heap:=h₁,toks:=s2.toks+([]:List (Str×Value)).length }
  have J0:=anR (tk:=s2.toks+([]:List (Str×Value)).length) I3 c rfl hf3 hns₁ akV
  have st1:tn 0 h₁:=T.keep _ _ _ st2 fun b hb o e=>akV b o (by rw [← hH3];exact Heap.get?_push_of_some _ e)
  have g0:HR X.K (upd H2 Da (.lst [])) (aL G1 Da (.lst [])):=g1.put (u := .lst []) hD ⟨[],aJ,.nil⟩
  have ts0:Ts H2 (upd H2 Da (.lst [])) := .same (bB hD)
  have loop:∀ s₄:Shared,Inv (fW X xs scope h3.objs.size { s2 with heap:=h3,toks:=s2.toks } (upd H2 Da (.lst [])) fp pins) [] (nn xs σ) (upd H2 Da (.lst [])) s₄→tn 0 s₄.heap →
      codeAny (model X.prog X.w) X.A (.compLoop (.ListComp elt [⟨tgt,iter,ifs,0⟩] scope pos) 0 (.ref it) (.ref Da) (compEnvC scope (lV X.env.cells scope.names []) h3.objs.size X.env)) (RR (.ref Da) h3.objs.size) s₄:=by
    intro s₄ J4 st4
    refine adY (fun n s'=>∃ i ds H' G',Inv (fW X xs scope h3.objs.size { s2 with heap:=h3,toks:=s2.toks } (upd H2 Da (.lst [])) fp pins) [] (nn xs σ) H' s'∧tn i s'.heap∧(∀ b∈fp,H' b=none)∧HR X.K H' G'∧P i ds G'∧i≤src.items.length∧n=src.items.length - i∧Ts H2 H') (fun n s' hI=>?_) src.items.length
      ⟨0,[],_,_,J4,st4,fun b hb=>(hf3 b hb).1.1,g0,p0,Nat.zero_le _,by simp,ts0⟩
    obtain ⟨i,ds,H',G',J,st,fr,g',p,hi',rfl,ts⟩:=hI
    obtain ⟨ok,hDl,hdl⟩:=pok i ds G' hi' p
    obtain ⟨sgo,ax9,asN⟩:=sj H' G' ts g' ok
    have fpX:∀ {H':Hp},(∀ b∈fp,H' b=none)→∀ b∈fp,yP (fW X xs scope h3.objs.size { s2 with heap:=h3,toks:=s2.toks } (upd H2 Da (.lst [])) fp pins) [] H' b:=fun hn b hb=>by
      obtain ⟨⟨f0,f1,f2',f3,f4,f5⟩,lt⟩:=hf3 b hb
      refine ⟨hn b hb,Nat.ne_of_lt lt,fun hs=>?_,.inl hb,fun y d e=>f4 y d (fK e fun _ h=>by simp at h),fun p' hp'=>f5 p' (by simpa using hp')⟩
      rcases a4P I3 hs with z | z
      · exact f1 z
      · exact f2' z
    by_cases hlt:i < src.items.length
    · refine wpAny_mono (T.item (fW X xs scope h3.objs.size { s2 with heap:=h3,toks:=s2.toks } (upd H2 Da (.lst [])) fp pins) rfl rfl rfl (fun h=>h) (fun _ h=>h) i [] s' (nn xs σ) H' (fun _ _=>False) J (fpX fr) st (sgo i hlt)) (fun r s5 ⟨u,hr,h5⟩=>?_) fun _ _ z=>z.elim
      subst hr
      obtain ⟨d0,ys,hd0,ey,axB⟩:∃ d ys,src.items[i]?=some d∧dv d=some ys∧tc (ys.map some++ρ) G' fun b G2=>if b=true then te (ys.map some++ρ) G2 fun y G3=>G3 Da=some (.lst ds)∧P (i+1) (ds++[y]) (aL G3 Da (.lst (ds++[y]))) else P (i+1) ds G2:=by
        have hd:src.items[i]?=some src.items[i]:=List.getElem?_eq_getElem hlt
        obtain ⟨ys,e,z⟩:=pst i _ ds G' hd p
        exact ⟨_,ys,hd,e,z⟩
      show wpAny _ _ (letOwnedTupleGo tgt (.ref it) u) _ _ s5
      refine wpAny_mono h5 (fun _ s6 ⟨vx,H6,I6,r6,y6,st6,fr6⟩=>?_) fun _ _ z=>z.elim
      obtain ⟨sm,d,hd,rd⟩:=ax9 i vx H6 hlt y6
      have g':=g'.same sm
      have ts:=ts.trans (.same sm)
      obtain rfl:d0=d:=Option.some.inj (hd0.symm.trans hd)
      have I6':=I6.pinned (fpX fr6) (T.obj _ _ st6)
      refine wpAny_mono (hT _ _ _ _ _ _ _ s6 H6 vx u _ _ I6' r6 rd ey) (fun _ s7 ⟨vs,rvs,I7⟩=>?_) fun _ _ z=>z.elim
      have lv:vs.length=xs.length:=by rw [← rvs.length];exact hdv _ _ ey
      have adZ:∀ {s'':Shared} {σ'':St} {H'':Hp},Inv (fW X xs scope h3.objs.size { s2 with heap:=h3,toks:=s2.toks } (upd H2 Da (.lst [])) fp pins) ([]++wO fp s6.heap) σ'' H'' s''→tn (i+1) s''.heap∧∀ b∈fp,H'' b=none:=fun I''=>by
        refine ⟨T.keep _ _ _ st6 fun b hb o e=>(I''.pin (b,o) (List.mem_append_right _ (List.mem_append_right _ (pP hb e)))).1,fun b hb=>?_⟩
        obtain ⟨o,e,_⟩:=T.obj _ _ st6 b hb
        exact (I''.pin (b,o) (List.mem_append_right _ (List.mem_append_right _ (pP hb e)))).2.1
      have down:∀ {s'':Shared} {H'':Hp},Inv (fW X xs scope h3.objs.size { s2 with heap:=h3,toks:=s2.toks } (upd H2 Da (.lst [])) fp pins) ([]++wO fp s6.heap) (vs.map some++σ) H'' s''→Inv (fW X xs scope h3.objs.size { s2 with heap:=h3,toks:=s2.toks } (upd H2 Da (.lst [])) fp pins) [] (nn xs σ) H'' s'':=fun I'' =>
        I''.vA.weak (by simp [nn,lv]) fun j v e=>by
          obtain ⟨j',rfl,e'⟩:=adV e
          rw [← lv,show vs.length=(vs.map some).length by simp,a9P]
          exact e'
      have sr7:SR X.K H6 (ys.map some++ρ) (vs.map some++σ):=adX (sr.mono (t1.trans ts)) rvs
      refine wpAny_mono (hc _ _ _ _ _ _ s7 (vs.map some++σ) H6 (fun b H8=>Ts H6 H8∧∃ G8,HR X.K H8 G8∧(if b=true then te (ys.map some++ρ) G8 fun y G3=>G3 Da=some (.lst ds)∧P (i+1) (ds++[y]) (aL G3 Da (.lst (ds++[y]))) else P (i+1) ds G8)) I7
        ⟨ys.map some++ρ,G',_,sr7,g',axB,fun b H8 G8 t8 g8 q8=>⟨t8,G8,g8,q8⟩⟩) (fun b s8 ⟨H8,I8,t8,G8,g8,q8⟩=>?_) fun _ _ z=>z.elim
      cases b with
      | false =>
        rw [if_neg (by decide)]
        have q8':P (i+1) ds G8:=by simpa using q8
        obtain ⟨a1,a2⟩:=adZ I8
        exact ⟨src.items.length - (i+1),by omega,i+1,ds,H8,G8,down I8,a1,a2,g8,q8',hlt,rfl,ts.trans t8⟩
      | true =>
        rw [if_pos rfl]
        have q8':te (ys.map some++ρ) G8 fun y G3=>G3 Da=some (.lst ds)∧P (i+1) (ds++[y]) (aL G3 Da (.lst (ds++[y]))):=by simpa using q8
        refine wpAny_mono (he _ _ _ _ _ _ s8 (vs.map some++σ) H8 (fun vy H9=>Ts H8 H9∧∃ y G9,RD X.K H9 y vy∧HR X.K H9 G9∧G9 Da=some (.lst ds)∧P (i+1) (ds++[y]) (aL G9 Da (.lst (ds++[y])))) I8 ⟨ys.map some++ρ,G8,_,sr7.mono t8,g8,q8',fun vy H9 y G9 t9 r9 g9 q9=>⟨t9,y,G9,r9,g9,q9⟩⟩) (fun uy s9 ⟨vy,H9,I9,ry,t9,y,G9,ryd,g9,hG9,q9⟩=>?_) fun _ _ z=>z.elim
        obtain ⟨ws,hH9,rws⟩:=g9 Da _ hG9
        have asQ:ws.length < sizeLine:=by rw [← rws.length];omega
        refine wpAny_mono (a2O (X:=fW X xs scope h3.objs.size { s2 with heap:=h3,toks:=s2.toks } (upd H2 Da (.lst [])) fp pins) _ s9 (vs.map some++σ) H9 (.ref Da) [vy] (.ref Da) [uy] (fun _ H10=>H10=upd H9 Da (.lst (ws++[vy]))) I9 rfl (.cons ry .nil) ⟨Da,ws,vy,rfl,rfl,hH9,asQ,rfl⟩) (fun _ s10 ⟨_,H10,I10,_,e10⟩=>?_) fun _ _ z=>z.elim
        subst e10
        obtain ⟨a1,a2⟩:=adZ I10
        have tt:Ts H9 (upd H9 Da (.lst (ws++[vy]))) := .turn hH9 (fun _ z=>nomatch z) (fun _ _ z=>nomatch z)
        exact ⟨src.items.length - (i+1),by omega,i+1,ds++[y],_,_,down I10,a1,a2,g9.turn (u := .lst (ds++[y])) tt ⟨_,aJ,(rws.append (.cons ryd .nil)).mono tt⟩,q9,hlt,rfl,((ts.trans t8).trans t9).trans tt⟩
    · have ein:i=src.items.length:=by omega
      subst ein
      refine wpAny_mono (T.done (fW X xs scope h3.objs.size { s2 with heap:=h3,toks:=s2.toks } (upd H2 Da (.lst [])) fp pins) rfl rfl rfl (fun h=>h) (fun _ h=>h) _ [] s' (nn xs σ) H' (fun _ _=>False) J (fpX fr) st asN) (fun r s5 ⟨hr,J5⟩=>?_) fun _ _ z=>z.elim
      subst hr
      obtain ⟨m5,hn5,_⟩:=id J5.loc
      obtain ⟨G0,l0,q0⟩:=pend ds G' p
      have I5:Inv X pins σ H' s5:=ai7 (tk:=s5.toks) I3 rfl hf3 J5 (Heap.SameBut.refl _ _)
      refine hRR Da _ s5 H' G0 I5 ⟨⟨m5,hn5⟩,J5.free,Nat.ne_of_gt I3.lt,I3.sz,fun y d e z=>?_,fun p hp z=>?_⟩ (t1.trans ts) (g'.le l0) q0
      · obtain ⟨w,o,ho,_⟩:=I3.cell y d e
        rw [z] at ho
        exact absurd (Heap.lt_size ho) (Nat.lt_irrefl _)
      · have:=(I3.pin p hp).1
        rw [z] at this
        exact absurd (Heap.lt_size this) (Nat.lt_irrefl _)
  exact codeAny_compStart_list (loop _ J0 st1) (T.self X.A 0 _ _ _ st1 (loop _ J0 st1))
def vV (dv:D→Option (List D)) (ti:TI3) (tc:uM) (te:cB):cB:=fun ρ G R=>ti ρ G fun src G1=>src.items.length < sizeLine∧∀ p,G1 p=none→∃ P:Nat→List D→Gp→Prop,P 0 [] (aL G1 p (.lst [])) ∧
  (∀ k ds G,k≤src.items.length→P k ds G→src.ok G∧G p=some (.lst ds)∧ds.length≤k) ∧
  (∀ k d ds G,src.items[k]?=some d→P k ds G→∃ ys,dv d=some ys∧tc (ys.map some++ρ) G fun b G2=>if b=true then te (ys.map some++ρ) G2 fun y G3=>G3 p=some (.lst ds)∧P (k+1) (ds++[y]) (aL G3 p (.lst (ds++[y]))) else P (k+1) ds G2) ∧
  ∀ ds G,P src.items.length ds G→∃ G0,Le G0 G∧R (.ref p) G0
def a89 (d:D):Option (List D):=some [d]
abbrev a05 (ti:TI3) (tc:uM) (te:cB):cB:=vV a89 ti tc te
def aiB (n:Nat) (d:D):Option (List D):=match d with
  | .tup ds=>if ds.length=n then some ds else none
  | _=>none
abbrev a9Q (n:Nat) (ti:TI3) (tc:uM) (te:cB):cB:=vV (aiB n) ti tc te
theorem a6Q (d:D) (ds:List D) (h:a89 d=some ds):ds.length=[x].length:=by
  unfold a89 at h;cases h;rfl
theorem a9R {n:Nat} {d:D} {ds:List D} (h:aiB n d=some ds):d = .tup ds∧ds.length=n:=by
  unfold aiB at h
  split at h
  · split at h
    · rename_i e;cases h;exact ⟨rfl,e⟩
    · cases h
  · cases h
theorem a8A {N:List Str} (c:pU X xs scope) (hnd:X.N.Nodup):(xs++X.N).Nodup:=List.nodup_append.mpr ⟨c.nd,hnd,fun a ha b hb e=>c.out a ha (e ▸ hb)⟩
theorem ae0 (c:pU X [x] scope) (hnd:X.N.Nodup) {C:Addr} {s:Shared} {H:Hp} {fp:List Addr} {pins:List (Addr×Obj)} {σ:St}:adW (fW X [x] scope C s H fp pins) (.Name x px) [x] a89 σ:=by
  intro rC s' H' v u d ds I r rd e
  unfold a89 at e
  cases e
  have pgn:PG (fW X [x] scope C s H fp pins) (.Name x px) (a98 0):=a3T (a8A (N:=X.N) c hnd) rfl (.inl (lookup_relabel_local (c.var x (by simp)))) (.inr (lookup_relabel_local (c.var x (by simp))))
  refine wpAny_mono (pgn rC s' (nn [x] σ) H' v u (fun σ' H2=>σ'=[v].map some++σ∧H2=H') I r ⟨rfl,rfl⟩) (fun _ s2 ⟨σ2,H2,I2,e2,e3⟩=>?_) fun _ _ z=>z
  subst e2;subst e3
  exact ⟨[v],.cons rd .nil,I2⟩
theorem a4Q (c:pU X xs scope) (hT:∀ C s H fp pins σ,adW (fW X xs scope C s H fp pins) tgt xs dv σ) (hdv:∀ d ds,dv d=some ds→ds.length=xs.length) (hi:PI3 X tgt iter ti) (hc:∀ C s H fp pins,abO (fW X xs scope C s H fp pins) ifs tc) (he:∀ C s H fp pins,cI (fW X xs scope C s H fp pins) elt te)
    (hs:∀ y,foldedSetIterable iter X.env y=pure y):cI X (.ListComp elt [⟨tgt,iter,ifs,0⟩] scope pos) (vV dv ti tc te):=by
  intro pins s σ H Q I h _tk
  obtain ⟨ρ,G,R,sr,g,q,kk⟩:=h
  rw [eval_ListComp]
  refine wpAny_comprehension_free (use:=none) rfl hs (oG fun y hy hf=>I.ok.has y.1 (c.frees y hy hf)) c.kind c.locs ?_
  refine cV (hi pins s σ H (fun J H1=>Ts H H1∧∃ src G1,HR X.K H1 G1∧a6M X.K H1 src J∧(src.items.length < sizeLine∧∀ p,G1 p=none→∃ P:Nat→List D→Gp→Prop,P 0 [] (aL G1 p (.lst [])) ∧
      (∀ k ds G,k≤src.items.length→P k ds G→src.ok G∧G p=some (.lst ds)∧ds.length≤k) ∧
      (∀ k d ds G,src.items[k]?=some d→P k ds G→∃ ys,dv d=some ys∧tc (ys.map some++ρ) G fun b G2=>if b=true then te (ys.map some++ρ) G2 fun y G3=>G3 p=some (.lst ds)∧P (k+1) (ds++[y]) (aL G3 p (.lst (ds++[y]))) else P (k+1) ds G2) ∧
      ∀ ds G,P src.items.length ds G→∃ G0,Le G0 G∧R (.ref p) G0)) I ⟨ρ,G,_,sr,g,q,fun src J H' G' t1 g1 sj q1=>⟨t1,src,G',g1,sj,q1⟩⟩) fun v s1 h1=>cV h1 fun itv s2 hz=>?_
  obtain ⟨it,fp,tn,J,H2,e,I2,T,st2,f2,t1,src,G1,g1,sj,hlen,body⟩:=hz
  subst e
  exact a2Z (RR:=fun acc C=>compPost (model X.prog X.w) X.A X.xe none (EP X pins σ Q) acc C) c hT hdv hc he sr I2 T st2 f2 t1 g1 sj hlen body fun Da C s5 H' G0 I5 o ts g0 q0=>by
    obtain ⟨m,hn⟩:=o.ns
    exact ⟨m,hn,fun h' hs'=>⟨.ref Da,H',o.turn I5 hs',rfl,kk _ H' _ G0 ts (.ref Da) g0 q0⟩⟩
theorem aiC {y:Str} {i:Nat} {py spos:Pos} (c:pU X xs scope) (hT:∀ C s H fp pins σ,adW (fW X xs scope C s H fp pins) tgt xs dv σ) (hdv:∀ d ds,dv d=some ds→ds.length=xs.length) (hnd:X.N.Nodup) (hy:X.N[i]?=some y) (hl:Loc X.env.scope y) (hf:X.fn y=true) (hi:PI3 X tgt iter ti) (hc:∀ C s H fp pins,abO (fW X xs scope C s H fp pins) ifs tc) (he:∀ C s H fp pins,cI (fW X xs scope C s H fp pins) elt te)
    (hs:∀ y,foldedSetIterable iter X.env y=pure y):PS3 X (.Assign [.Name y py] (.ListComp elt [⟨tgt,iter,ifs,0⟩] scope pos) spos) (bJ i (vV dv ti tc te)):=by
  have hsw:∃ b,swapsWith (.ListComp elt [⟨tgt,iter,ifs,0⟩] scope pos) (some (.Name y py)) spos.line X.env=pure b:=⟨_,rfl⟩
  obtain ⟨b,hsw⟩:=hsw
  cases b with
  | false=>exact akO hnd hy hl (a4Q c hT hdv hi hc he hs) hsw (.inl hf)
  | true =>
    intro pins s σ H F I h _tk
    obtain ⟨ρ,G,E,sr,g,q,d⟩:=h
    rw [exec_Assign_Name_used _ _ _ _ hsw]
    refine wpAny_bind (wpAny_standAt (wpAny_bind ?_))
    show wpAny _ X.A (do let _ ← comprehension (.ListComp elt [⟨tgt,iter,ifs,0⟩] scope pos) scope X.env _ (newList []) false (eval iter X.env) (some (assign (.Name y py) X.env))) _ _ s
    refine wpAny_bind (wpAny_mono (wpAny_comprehension_free (use:=some (assign (.Name y py) X.env)) (Q:=fun _ s'=>SP X pins F .next s') rfl hs (oG fun y hy hf=>I.ok.has y.1 (c.frees y hy hf)) c.kind c.locs ?_) (fun _ s' hq=>wpAny_pure (wpAny_pure hq)) fun _ _ e=>e)
    refine cV (hi pins s σ H (fun J H1=>Ts H H1∧∃ src G1,HR X.K H1 G1∧a6M X.K H1 src J∧(src.items.length < sizeLine∧∀ p,G1 p=none→∃ P:Nat→List D→Gp→Prop,P 0 [] (aL G1 p (.lst [])) ∧
        (∀ k ds G,k≤src.items.length→P k ds G→src.ok G∧G p=some (.lst ds)∧ds.length≤k) ∧
        (∀ k d ds G,src.items[k]?=some d→P k ds G→∃ ys,dv d=some ys∧tc (ys.map some++ρ) G fun b G2=>if b=true then te (ys.map some++ρ) G2 fun y G3=>G3 p=some (.lst ds)∧P (k+1) (ds++[y]) (aL G3 p (.lst (ds++[y]))) else P (k+1) ds G2) ∧
        ∀ ds G,P src.items.length ds G→∃ G0,Le G0 G∧E.nx (tW ρ i (.ref p)) G0)) I ⟨ρ,G,_,sr,g,q,fun src J H' G' t1 g1 sj q1=>⟨t1,src,G',g1,sj,q1⟩⟩) fun v s1 h1=>cV h1 fun itv s2 hz=>?_
    obtain ⟨it,fp,tn,J,H2,e,I2,T,st2,f2,t1,src,G1,g1,sj,hlen,body⟩:=hz
    subst e
    refine a2Z (R:=fun z G0=>E.nx (tW ρ i z) G0) (RR:=fun acc C=>compPost (model X.prog X.w) X.A X.xe (some (assign (.Name y py) X.env)) (fun _ s'=>SP X pins F .next s') acc C) c hT hdv hc he sr I2 T st2 f2 t1 g1 sj hlen body fun Da C s5 H' G0 I5 o ts g0 q0=>?_
    show wpAny _ X.A (assign (.Name y py) X.env (.ref Da)) _ _ s5
    refine wpAny_assign_Name (a2H (v := .ref Da) I5 hnd hy hl rfl (fun s6 I6 ⟨a,hsb,ha⟩=>?_) (.inl hf))
    obtain ⟨m,hn⟩:=o.ns
    have hCa:C≠a:=by
      rcases ha with rfl | ha
      · exact o.loc
      · exact fun z=>o.cells y a ha z.symm
    have o6:aiA X pins H' C s6.heap:=⟨⟨m,hn.sameBut hsb hCa⟩,o.free,o.loc,o.young,o.cells,o.pins⟩
    refine ⟨m,hn.sameBut hsb hCa,fun h' hs'=>⟨_,H',o6.turn I6 hs',d.nx _ G0 _ H' ((sr.mono ts).set (.ref Da) i) g0 q0⟩⟩
end
end L2
namespace L2
open PySem PySem.Spec PyProof.Rows
abbrev TG3:=D→aN→(aN→Prop)→Prop
def upG (K:Fg) (t:TG3):TG:=fun v σ H Q=>∃ ρ d R,SR K H ρ σ∧RD K H d v∧t d ρ R∧∀ ρ' σ',SR K H ρ' σ'→R ρ'→Q σ' H
abbrev PG3 (X:Cx) (tg:Expr) (t:TG3):Prop:=PG X tg (upG X.K t)
def rQ (i:Nat):TG3:=fun d ρ Q=>Q (tW ρ i d)
def a3A:aN→List Nat→List D→aN
  | ρ,i :: is,d :: ds=>a3A (tW ρ i d) is ds
  | ρ,_,_=>ρ
def akW (is:List Nat):TG3:=fun d ρ Q=>match d with
  | .tup ds=>ds.length=is.length∧Q (a3A ρ is ds)
  | _=>False
def a3B:St→List Nat→List V→St
  | σ,i :: is,v :: vs=>a3B (σ.set i (some v)) is vs
  | σ,_,_=>σ
theorem SR.sets {K:Fg} {H:Hp}:∀ {is:List Nat} {ds:List D} {vs:List V} {ρ:aN} {σ:St},bM K H ds vs→SR K H ρ σ→SR K H (a3A ρ is ds) (a3B σ is vs)
  | [],_,_,_,_,_,s=>s
  | _ :: _,_,_,_,_,.nil,s=>s
  | i :: is,_,_,_,_,.cons h r,s=>SR.sets (is:=is) r (s.set h i)
section
variable {X:Cx}
theorem PG.imp {e:Expr} {t t':TG} (h:PG X e t) (k:∀ v σ H Q,t' v σ H Q→t v σ H Q):PG X e t':=fun pins s σ H v u Q I r q=>h pins s σ H v u Q I r (k _ _ _ _ q)
theorem anS {i:Nat} {x:Str} {pos:Pos} (hN:X.N.Nodup) (hi:X.N[i]?=some x) (hx:Loc X.env.scope x) (hf:X.fn x=true∨X.env.scope.names.lookup x=some .local):PG3 X (.Name x pos) (rQ i) :=
  PG.imp (a3T hN hi hx hf) fun v σ H Q h=>by
  obtain ⟨ρ,d,R,s,r,q,k⟩:=h
  exact k _ _ (s.set r i) q
structure aiD (X:Cx) (e:Expr) (i:Nat):Prop where
  ex:∃ x pos,e = .Name x pos∧X.N[i]?=some x∧Loc X.env.scope x∧(X.fn x=true∨X.env.scope.names.lookup x=some .local)
def anT:List Nat→TGs
  | []=>aqI
  | i :: is=>akC (a98 i) (anT is)
theorem a4R:∀ {is:List Nat} {vs:List V} {σ:St} {H:Hp} {Q:St→Hp→Prop},vs.length=is.length→Q (a3B σ is vs) H→anT is vs σ H Q
  | [],[],_,_,_,_,q=>⟨rfl,q⟩
  | [],_ :: _,_,_,_,h,_=>by simp at h
  | _ :: _,[],_,_,_,h,_=>by simp at h
  | i :: is,v :: vs,σ,H,Q,h,q=>⟨v,vs,rfl,a4R (is:=is) (by simpa using h) q⟩
theorem xE (hN:X.N.Nodup):∀ {es:List Expr} {is:List Nat},Two (aiD X) es is→PGs X es (anT is)∧(assignEach es X.env).length=is.length∧(assignEach es X.env).findIdx? (·.1)=none
  | _,_,.nil=>⟨agW,rfl,rfl⟩
  | _,_,.cons (a:=e) (b:=i) h r=>by
    obtain ⟨x,pos,rfl,h1,h2,h3⟩:=h.ex
    obtain ⟨a1,a2,a3⟩:=xE hN r
    refine ⟨acU (a3T hN h1 h2 h3) a1 rfl,?_,?_⟩
    · show (assignEach _ X.env).length+1=_
      rw [a2];rfl
    · show ((false,assign (.Name x pos) X.env) :: assignEach _ X.env).findIdx? (·.1)=none
      rw [List.findIdx?_cons]
      simp [a3]
theorem asR {es:List Expr} {is:List Nat} {k:Nat} {pos:Pos} (hN:X.N.Nodup) (hc:X.calm=true) (h:Two (aiD X) es is):PG3 X (.Tuple es k pos) (akW is):=by
  obtain ⟨a1,a2,a3⟩:=xE hN h
  refine PG.imp (acV hc a1 a2 a3) fun v σ H Q h=>?_
  obtain ⟨ρ,d,R,s,r,q,k⟩:=h
  cases r with
  | @tup a vs ds hq rv =>
    have q':ds.length=is.length∧R (a3A ρ is ds):=q
    exact ⟨a,vs,rfl,hq,by rw [← rv.length];exact q'.1,a4R (by rw [← rv.length];exact q'.1) (k _ _ (SR.sets rv s) q'.2)⟩
  | _=>exact False.elim q
theorem a3C:∀ (xs:List Str) (vs done:List V) (σ:St),vs.length=xs.length→a3B (done.map some++nn xs σ) (List.range' done.length xs.length) vs=(done++vs).map some++σ
  | [],[],done,σ,_=>by simp [a3B,nn]
  | [],_ :: _,_,_,h=>by simp at h
  | _ :: _,[],_,_,h=>by simp at h
  | x :: xs,v :: vs,done,σ,h=>by
    have ih:=a3C xs vs (done++[v]) σ (by simpa using h)
    have e1:(done.map some++nn (x :: xs) σ).set done.length (some v)=(done++[v]).map some++nn xs σ:=by
      simp [nn,List.set_append]
    show a3B ((done.map some++nn (x :: xs) σ).set done.length (some v)) (List.range' (done.length+1) xs.length) vs=_
    rw [e1]
    have e2:(done++[v]).length=done.length+1:=by simp
    rw [e2] at ih
    rw [ih]
    simp
theorem anU {xs:List Str} {scope:Scope} {es:List Expr} {k:Nat} {pos:Pos} (c:pU X xs scope) (hnd:X.N.Nodup) (hc:X.calm=true) (hes:Two (fun e x=>∃ p,e=Expr.Name x p) es xs) {C:Addr} {s:Shared} {H:Hp} {fp:List Addr} {pins:List (Addr×Obj)} {σ:St}:adW (fW X xs scope C s H fp pins) (.Tuple es k pos) xs (aiB xs.length) σ:=by
  intro rC s' H' v u d ds I r rd e
  obtain ⟨rfl,hl⟩:=a9R e
  have nms:∀ (es':List Expr) (ys done:List Str),Two (fun e x=>∃ p,e=Expr.Name x p) es' ys→xs=done++ys→Two (aiD (fW X xs scope C s H fp pins)) es' (List.range' done.length ys.length):=by
    intro es' ys
    induction ys generalizing es' with
    | nil=>intro done t _;cases t;exact .nil
    | cons y ys ih =>
      intro done t e
      cases t with
      | cons h t =>
        obtain ⟨p,rfl⟩:=h
        have z:=ih _ (done++[y]) t (by simp [e])
        have e2:(done++[y]).length=done.length+1:=by simp
        rw [e2] at z
        refine .cons ⟨y,p,rfl,?_,.inl (lookup_relabel_local (c.var y (by simp [e]))),.inr (lookup_relabel_local (c.var y (by simp [e])))⟩ z
        show (xs++X.N)[done.length]?=some y
        rw [e]
        simp
  obtain ⟨a1,a2,a3⟩:=xE (X:=fW X xs scope C s H fp pins) (a8A (N:=X.N) c hnd) (nms es xs [] hes rfl)
  cases rd with
  | @tup a vs _ hq rv =>
    have lv:vs.length=xs.length:=by rw [← rv.length];exact hl
    have pgt:=acV (X:=fW X xs scope C s H fp pins) (k:=k) (pos:=pos) (show (fW X xs scope C s H fp pins).calm=true from hc) a1 a2 a3
    refine wpAny_mono (pgt rC s' (nn xs σ) H' (.ref a) u (fun σ' H2=>σ'=vs.map some++σ∧H2=H') I r ⟨a,vs,rfl,hq,by simpa using lv,a4R (by simpa using lv) ⟨?_,rfl⟩⟩) (fun _ s2 ⟨σ2,H2,I2,e2,e3⟩=>?_) fun _ _ z=>z
    · have:=a3C xs vs [] σ lv
      simpa using this
    · subst e2;subst e3
      exact ⟨vs,rv,I2⟩
def ae1 (K:Fg) (src:Src) (J:It):Prop:=∀ H2 G2,HR K H2 G2→src.ok G2 →
  (∀ i,i < src.items.length→J.go i H2)∧(∀ i v H',i < src.items.length→J.yld i H2 v H'→Same H2 H'∧∃ d,src.items[i]?=some d∧RD K H' d v)∧J.stop src.items.length H2
def axE (K:Fg) (t:TI3):TI:=fun σ H Q=>∃ ρ G R,SR K H ρ σ∧HR K H G∧t ρ G R∧∀ src J H' G',Ts H H'→HR K H' G'→ae1 K src J→R src G'→Q J H'
abbrev PIS (X:Cx) (tg iter:Expr) (t:TI3):Prop:=PI X tg iter (axE X.K t)
def a8B (te:cB):TI3:=fun ρ G R=>te ρ G fun x G1=>match x with
  | .ref p=>(match bH G1 p with
    | some xs=>R (.lst p xs) G1
    | none=>False)
  | .str z=>R (.imm (signs z)) G1
  | .tup xs=>xs.all scD=true∧∀ a,(G1 a=none∨G1 a=some (.tpl xs))→R (.tpl a xs) (aL G1 a (.tpl xs))
  | _=>False
theorem asS {K:Fg} {H:Hp} {d d':D} {v:V} (h:scD d=true) (r:RD K H d v) (r':RD K H d' v):d'=d:=by
  cases r with
  | non=>cases r';rfl
  | bl b=>cases r';rfl
  | int i=>cases r';rfl
  | str x=>cases r';rfl
  | _=>exact Bool.noConfusion (show false=true from h)
theorem ae2 {K:Fg} {H:Hp}:∀ {ds ds':List D} {vs:List V},ds.all scD=true→bM K H ds vs→bM K H ds' vs→ds'=ds
  | _,_,_,_,.nil,.nil=>rfl
  | d :: ds,d' :: ds',_,h,.cons r rr,.cons r' rr'=>by
    rw [List.all_cons,Bool.and_eq_true] at h
    rw [asS h.1 r r',ae2 h.2 rr rr']
theorem ae3 {pins:List (Addr×Obj)} {σ:St} {H:Hp} {s:Shared} {G:Gp} {a:Addr} {xs:List V} {o:GO} (I:Inv X pins σ H s) (g:HR X.K H G) (hq:rD X.K H a xs) (e:G a=some o):∃ ds,o = .tpl ds∧bM X.K H ds xs:=by
  have no:∀ u,H a=some u→(∀ ys,u ≠ .tup ys)→(∀ ob ys,u ≠ .mZ ob (.tup ys))→False:=fun u hu h1 h2=>by
    rcases hq with (q | ⟨ob,q⟩) | ⟨ob,_,_,q,_⟩
    · rw [hu] at q;exact h1 _ (Option.some.inj q)
    · rw [hu] at q;exact h2 _ _ (Option.some.inj q)
    · have:=rK I a ob q;rw [hu] at this;cases this
  have z:=g a o e
  cases o with
  | lst ds=>obtain ⟨_,q,_⟩:=z;exact (no _ q (fun _ w=>nomatch w) (fun _ _ w=>nomatch w)).elim
  | rol ds =>
    obtain ⟨_,q,_⟩:=z
    obtain ⟨_,_,⟨o1,n1,e1,c1,_⟩,_⟩:=I.list q
    obtain ⟨_,_,⟨o2,e2,c2,_⟩,_⟩:=I.tuple hq
    rw [e1] at e2;cases e2
    rw [c1] at c2;exact absurd c2 (by decide)
  | tV t kvs=>rcases z with ⟨_,_,q,_⟩ | ⟨_,_,q,_⟩ <;> exact (no _ q (fun _ w=>nomatch w) (fun _ _ w=>nomatch w)).elim
  | ins C fs=>obtain ⟨_,_,q,_⟩:=z;exact (no _ q (fun _ w=>nomatch w) (fun _ _ w=>nomatch w)).elim
  | z9 C=>obtain ⟨_,_,q,_⟩:=z;exact (no _ q (fun _ w=>nomatch w) (fun _ _ w=>nomatch w)).elim
  | rdc ob t kvs=>rcases z with ⟨_,_,q,_⟩ | ⟨_,_,q,_⟩ <;> exact (no _ q (fun _ w=>nomatch w) (fun _ _ w=>nomatch w)).elim
  | tpl ds=>obtain ⟨ys,q,r⟩:=z;exact ⟨ds,rfl,by rw [← I.wN q hq];exact r⟩
  | kst ks=>obtain ⟨_,_,_,q,_⟩:=z;exact (no _ q (fun _ w=>nomatch w) (fun _ _ w=>nomatch w)).elim
  | tab q p=>obtain ⟨_,q,_⟩:=z;exact (no _ q (fun _ w=>nomatch w) (fun _ _ w=>nomatch w)).elim
  | clo c d=>obtain ⟨_,_,_,_,_,_,_,_,q,_⟩:=z;exact (no _ q (fun _ w=>nomatch w) (fun _ _ w=>nomatch w)).elim
theorem aiE {pins:List (Addr×Obj)} {σ:St} {H:Hp} {s:Shared} {G:Gp} {a:Addr} {xs:List V} {ds:List D} (I:Inv X pins σ H s) (g:HR X.K H G) (hq:rD X.K H a xs) (rv:bM X.K H ds xs) (sc:ds.all scD=true) :
    (G a=none∨G a=some (.tpl ds))∧HR X.K H (aL G a (.tpl ds)):=by
  refine ⟨?_,fun b o e=>?_⟩
  · cases e:G a with
    | none=>exact .inl rfl
    | some o=>obtain ⟨ds',rfl,r⟩:=ae3 I g hq e;exact .inr (by rw [ae2 sc rv r])
  · by_cases hb:b=a
    · subst hb;rw [aF] at e;cases e;exact ⟨xs,hq,rv⟩
    · rw [cG hb] at e;exact g b o e
theorem ae4 {K:Fg} {p:Addr} {xs:List D}:ae1 K (.tpl p xs) (Itt K p):=fun H2 G2 g ok=>by
  obtain ⟨vs,hq,rv⟩:=g p _ ok
  exact a6O hq rv H2 G2 (.refl _) g trivial
theorem abQ {K:Fg} {p:Addr} {xs:List D}:ae1 K (.lst p xs) (Itl K p):=fun H2 G2 g ok=>a2Y (H1:=H2) H2 G2 (.refl _) g ok
theorem a6R {K:Fg} {z:Str}:ae1 K (.imm (signs z)) (Its z):=fun H2 G2 g ok=>a03 (H1:=H2) H2 G2 (.refl _) g ok
theorem ae5 {K:Fg} {lo:Int} {n:Nat}:ae1 K (.imm ((List.range n).map fun (i:Nat) => .int (lo+(i:Int)))) (Itr lo n):=fun H2 G2 g ok=>a6P (H1:=H2) H2 G2 (.refl _) g ok
theorem anV {tg l:Expr} {te:cB} (hl:cI X l te):PIS X tg l (a8B te):=by
  intro pins s σ H R I h _tk
  obtain ⟨ρ,G,R3,sr,g,q,k⟩:=h
  refine cV (hl pins s σ H (fun v H1=>Ts H H1∧∃ x G1,RD X.K H1 x v∧HR X.K H1 G1∧(match x with
    | .ref p=>(match bH G1 p with
      | some xs=>R3 (.lst p xs) G1
      | none=>False)
    | .str z=>R3 (.imm (signs z)) G1
    | .tup xs=>xs.all scD=true∧∀ a,(G1 a=none∨G1 a=some (.tpl xs))→R3 (.tpl a xs) (aL G1 a (.tpl xs))
    | _=>False)) I ⟨ρ,G,_,sr,g,q,fun v H1 x G1 t1 r g1 q1=>⟨t1,x,G1,r,g1,q1⟩⟩) fun v s1 ⟨x,H1,I1,r1,t1,d,G1,rd,g1,q1⟩=>?_
  cases rd with
  | ref a =>
    have q1':(match bH G1 a with
      | some xs=>R3 (.lst a xs) G1
      | none=>False):=q1
    split at q1'
    · rename_i xs e
      cases r1
      obtain ⟨vs,hq,rv⟩:=cA g1 e
      obtain ⟨its,rv',p,hz⟩:=I1.list hq
      refine wpAny_pyIter_list p.isList ?_
      refine ⟨s1.heap.objs.size,[s1.heap.objs.size],_,_,H1,rfl,I1.kept (t':=s1.toks) fun b o e=>Heap.get?_push_of_some _ e,a2I a _,⟨_,Heap.get?_push_size _ rfl,rfl,rfl⟩,fun b hb=>?_,k _ _ H1 G1 t1 g1 abQ q1'⟩
      have e:b=s1.heap.objs.size:=by simpa using hb
      subst e
      exact I1.a3U (Nat.le_refl _) (I1.hok.fresh (Nat.le_refl _))
    · exact q1'.elim
  | str z =>
    obtain ⟨t,rfl⟩:=r1
    cases ha:z.cps.all (· < 128)
    · refine wpAny_pyIter_wide ha ?_
      refine ⟨s1.heap.objs.size,[s1.heap.objs.size],_,_,H1,rfl,I1.kept (t':=s1.toks) fun b o e=>Heap.get?_push_of_some _ e,a2X _ z t,?_,fun b hb=>?_,k _ _ H1 G1 t1 g1 a6R q1⟩
      · rw [Nat.zero_min];exact ⟨_,Heap.get?_push_size _ rfl,rfl,rfl⟩
      · have e:b=s1.heap.objs.size:=by simpa using hb
        subst e
        exact I1.a3U (Nat.le_refl _) (I1.hok.fresh (Nat.le_refl _))
    · refine wpAny_pyIter_ascii ha ?_
      refine ⟨s1.heap.objs.size,[s1.heap.objs.size],_,_,H1,rfl,I1.kept (t':=s1.toks) fun b o e=>Heap.get?_push_of_some _ e,a2W _ z t,?_,fun b hb=>?_,k _ _ H1 G1 t1 g1 a6R q1⟩
      · rw [Nat.zero_min];exact ⟨_,Heap.get?_push_size _ rfl,rfl,rfl⟩
      · have e:b=s1.heap.objs.size:=by simpa using hb
        subst e
        exact I1.a3U (Nat.le_refl _) (I1.hok.fresh (Nat.le_refl _))
  | @tup a vs xs hq rv =>
    cases r1
    obtain ⟨its,rv',p,hz⟩:=I1.tuple hq
    obtain ⟨sc,q1⟩:=q1
    obtain ⟨hG,g2⟩:=aiE I1 g1 hq rv sc
    refine wpAny_pyIter_tuple (show s1.heap.IsTuple a its.toArray from p) ?_
    refine ⟨s1.heap.objs.size,[s1.heap.objs.size],_,_,H1,rfl,I1.kept (t':=s1.toks) fun b o e=>Heap.get?_push_of_some _ e,zN a _,⟨_,Heap.get?_push_size _ rfl,rfl,rfl⟩,fun b hb=>?_,k _ _ H1 _ t1 g2 ae4 (q1 a hG)⟩
    have e:b=s1.heap.objs.size:=by simpa using hb
    subst e
    exact I1.a3U (Nat.le_refl _) (I1.hok.fresh (Nat.le_refl _))
  | _=>exact q1.elim
theorem aiF {tg a:Expr} {ta:n6} {p pos:Pos} (hg:Gl X "range") (hm:X.mg "range" = none) (ha:PA3 X [a] ta) (hs:starEach [a] X.env=[(false,eval a X.env)]):PIS X tg (.Call (.Name "range" p) [a] [] pos) (xB ta) :=
  PI.imp (a2J hg hm ha hs) fun σ H Q h=>by
  obtain ⟨ρ,G,R,s,g,q,k⟩:=h
  refine ⟨ρ,G,_,s,g,q,fun vs H1 ds G1 t1 r g1 h1=>?_⟩
  cases r with
  | nil=>exact h1.elim
  | cons r rr =>
    cases rr with
    | cons _ _=>cases r <;> exact False.elim h1
    | nil =>
      cases r with
      | int j =>
        obtain ⟨l1,l2,h1⟩:=h1
        refine ⟨j,rfl,l1,l2,k _ _ H1 G1 t1 g1 ?_ h1⟩
        unfold a1X
        rw [show (j - 0).toNat=j.toNat by omega]
        exact ae5
      | _=>exact False.elim h1
def rR (ti:TI3) (tg:TG3) (tb:bK):bK:=fun F ρ G=>ti ρ G fun src G1=>∃ P:Nat→aN→Gp→Prop,P 0 ρ G1∧(∀ k ρ G,k≤src.items.length→P k ρ G→src.ok G) ∧
  (∀ k d ρ G,src.items[k]?=some d→P k ρ G→tg d ρ fun ρ2=>tb { F with nx:=P (k+1),ct:=P (k+1),bk:=F.nx } ρ2 G)∧∀ ρ G,P src.items.length ρ G→F.nx ρ G
theorem anW {tgt iter:Expr} {body:List Stmt} {ti:TI3} {tg:TG3} {tb:bK} {pos:Pos} (hp:PassesOwn (model X.prog X.w) X.A X.env X.xe) (hi:PIS X tgt iter ti) (hg:PG3 X tgt tg) (hb:uN X body tb)
    (hs:∀ x,foldedSetIterable iter X.env x=pure x):PS3 X (.For tgt iter body [] pos) (rR ti tg tb):=PS.imp (am1 hp hi hg hb hs) fun F σ H h=>by
  obtain ⟨ρ,G,E,s,g,q,d⟩:=h
  refine ⟨ρ,G,fun src G1=>∃ P:Nat→aN→Gp→Prop,P 0 ρ G1∧(∀ k ρ G,k≤src.items.length→P k ρ G→src.ok G) ∧
    (∀ k d ρ G,src.items[k]?=some d→P k ρ G→tg d ρ fun ρ2=>tb { E with nx:=P (k+1),ct:=P (k+1),bk:=E.nx } ρ2 G)∧∀ ρ G,P src.items.length ρ G→E.nx ρ G,s,g,q,fun src J H1 G1 t1 g1 sj ⟨P,p0,pok,pst,pend⟩=>?_⟩
  refine adH (K:=X.K) (n:=src.items.length) (fun k σ2 H2=>∃ ρ' G',SR X.K H2 ρ' σ2∧HR X.K H2 G'∧P k ρ' G') ⟨ρ,G1,s.mono t1,g1,p0⟩ (fun σ2 H2 ⟨ρ',G',s2,g2,p⟩=>?_) (fun k σ2 H2 hk ⟨ρ',G',s2,g2,p⟩=>?_) (fun k y σ2 H2 H3 hk ⟨ρ',G',s2,g2,p⟩ hy=>?_)
    (fun σ2 H2 ⟨ρ',G',s2,g2,p⟩=>d.nx ρ' G' σ2 H2 s2 g2 (pend ρ' G' p))
  · exact (sj H2 G' g2 (pok _ ρ' G' (Nat.le_refl _) p)).2.2
  · exact (sj H2 G' g2 (pok _ ρ' G' (Nat.le_of_lt hk) p)).1 k hk
  · obtain ⟨sm,dk,e1,e2⟩:=(sj H2 G' g2 (pok _ ρ' G' (Nat.le_of_lt hk) p)).2.1 k y H3 hk hy
    refine ⟨ρ',dk,_,s2.mono (.same sm),e2,pst k dk ρ' G' e1 p,fun ρ2 σ3 s3 q3=>?_⟩
    exact ⟨ρ2,G',_,s3,g2.same sm,q3,⟨fun ρ4 G4 σ4 H4 s4 g4 q4=>⟨ρ4,G4,s4,g4,q4⟩,d.rt,d.nx,fun ρ4 G4 σ4 H4 s4 g4 q4=>⟨ρ4,G4,s4,g4,q4⟩⟩⟩
end
end L2
namespace L2
open PySem PySem.Spec PyProof.Rows
def axF:D→Bool
  | .bl _=>true
  | _=>false
def axG:D→Bool
  | .bl b=>b
  | _=>false
def ayZ:List D→Gp→dG→Prop:=fun xs G R=>match xs with
  | [.ref q]=>(match bH G q with
    | some ds=>ds.all axF=true∧R (.bl (ds.all axG)) G
    | none=>False)
  | _=>False
section
variable {X:Cx}
def nC:List D→Option (List Str)
  | []=>some []
  | .str z :: r=>(nC r).map (z :: ·)
  | _=>none
def uV:RM3:=fun x xs G R=>match x,xs with
  | .str z,[.ref q]=>(match (bH G q).bind nC with
    | some ys=>(ys.map (·.length)).sum+ys.length * z.length≤16777216∧R (.str (Txt.join z ys)) G
    | none=>False)
  | _,_=>False
theorem vW {K:Fg} {H:Hp}:∀ {ds:List D} {vs:List V} {us:List Value} {ys:List Str},bM K H ds vs→Vals vs us→nC ds=some ys→StrsAre us ys
  | [],_,_,_,.nil,.nil,e=>by cases e;exact .nil
  | .str z :: r,_,_,ys,.cons (.str _) rr,.cons hu hr,e=>by
    unfold nC at e
    cases q:nC r with
    | none=>rw [q] at e;cases e
    | some zs =>
      rw [q] at e
      cases e
      obtain ⟨t,rfl⟩:=hu
      exact .cons z t (vW rr hr q)
  | .non :: _,_,_,_,_,_,e=>by cases e
  | .bl _ :: _,_,_,_,_,_,e=>by cases e
  | .int _ :: _,_,_,_,_,_,e=>by cases e
  | .tup _ :: _,_,_,_,_,_,e=>by cases e
  | .ref _ :: _,_,_,_,_,_,e=>by cases e
  | .ty _ :: _,_,_,_,_,_,e=>by cases e
theorem ae6:vU X "str.join" uV:=fun pins s σ H x xs vx vs u us G R Q I rx rs ru rv g q k=>by
  cases rx with
  | str z =>
    cases rs with
    | nil=>exact False.elim q
    | cons r rr =>
      cases rr with
      | cons _ _=>cases r <;> exact False.elim q
      | nil =>
        cases r with
        | ref a =>
          obtain ⟨t,rfl⟩:=ru
          obtain ⟨u2,rfl,ru2⟩:=vals1 rv
          cases ru2
          have q':(match (bH G a).bind nC with
            | some ys=>(ys.map (·.length)).sum+ys.length * z.length≤16777216∧R (.str (Txt.join z ys)) G
            | none=>False):=q
          split at q'
          · rename_i ys e1
            obtain ⟨ds,e2,e3⟩:=Option.bind_eq_some_iff.mp e1
            obtain ⟨ws,hq,r1⟩:=cA g e2
            obtain ⟨its,rv',p,hz⟩:=I.list hq
            exact join_list p.isList (vW r1 rv' e3) q'.1 fun t' kk=>⟨.str _,H,I.tok kk,⟨t',rfl⟩,k _ H _ G (.refl H) (.str _) g q'.2⟩
          · exact q'.elim
        | _=>exact False.elim q
  | _ =>
    cases rs with
    | nil=>exact False.elim q
    | cons r rr=>cases rr <;> cases r <;> exact False.elim q
end
end L2
namespace L2
open PySem PySem.Spec PyProof.Rows
section
variable {X:Cx} {pos:Pos}
end
section
variable {X:Cx}
end
end L2
namespace L2
open PySem PySem.Spec PyProof.Rows
def ok2 (G:Gp) (x y:D):Bool:=match x,y with
  | .ref p,.ref q=>(match bH G p,bH G q with
    | some xs,some ys=>xs.all (aM 17)&&ys.all (aM 17)
    | _,_=>false)
  | x,y=>aM 18 x&&aM 18 y
section
variable {X:Cx}
def a9S (x:D) (G:Gp) (f:Addr→List D→Prop):Prop:=match x with
  | .ref p=>(match G p with
    | some (.lst ds)=>f p ds
    | _=>False)
  | _=>False
theorem ae7 {K:Fg} {H:Hp} {x:D} {vx:V} {G:Gp} {f:Addr→List D→Prop} (rx:RD K H x vx) (g:HR K H G) (h:a9S x G f):∃ p ds xs,x = .ref p∧vx = .ref p∧G p=some (.lst ds)∧H p=some (.lst xs)∧bM K H ds xs∧f p ds:=by
  unfold a9S at h
  split at h
  · rename_i p
    split at h
    · rename_i ds e
      cases rx
      obtain ⟨xs,e1,r⟩:=g p _ e
      exact ⟨p,ds,xs,rfl,rfl,e,e1,r,h⟩
    · exact h.elim
  · exact h.elim
end
end L2
namespace L2
open PySem PySem.Spec PyProof.Rows
section
variable {X:Cx} {C:Addr} {bmB bmN:List Value} {B Bn newId nid initId inN:String} {x:Str} {np cpos:Pos} {e:Expr} {es:List Expr} {t:n6}
def ae8 (C:Addr) (t:n6):cB:=fun ρ G R=>t ρ G fun ds G1=>ds.length≤sizeLine∧∀ x,G1 x=none→R (.ref x) (aL G1 x (.z9 C))
theorem ae9 {pins:List (Addr×Obj)} {σ:St} {H:Hp} {s:Shared} {h':Heap} {x:Addr} {us:List Value} (I:Inv X pins σ H s) (hm:Heap.MadeExcOf s.heap h' x (.ref C) us) :
    ∃ o vs,H x=none∧Inv X pins σ (upd H x (.mZ o (.ext (tY C x)))) { s with heap:=h' }∧o.data = .fields vs∧vs[2]?=some .none:=by
  obtain ⟨t,e1,_,_⟩:=hm.there
  have nxH:H x=none:=a6H I.hok hm.new
  refine ⟨{ cls := .ref C,data := .fields #[.ref t,.none,.none,.none,.bool false,.none] },#[.ref t,.none,.none,.none,.bool false,.none],nxH,?_,rfl,rfl⟩
  generalize ho:({ cls := .ref C,data := .fields #[.ref t,.none,.none,.none,.bool false,.none] }:Obj)=o at e1
  have sn:Same H (upd H x (.mZ o (.ext (tY C x)))):=bB nxH
  have nst:∀ b u,s.heap.get? b=some u→b≠x:=fun b u e z=>by subst z;rw [hm.new] at e;cases e
  refine I.call' (ch:=[]) (s':={ s with heap:=h' }) rfl ⟨fun b u e n _ _=>hm.keeps b u e,fun b u e n _ _=>⟨u.slots,hm.keeps b u e⟩,fun b u e n _=>by rw [aK (nst b u e)];exact n,fun b u e _=>⟨u,hm.keeps b u e⟩,fun b xs z=>sn _ _ z,fun b u v z=>sn _ _ z,fun b ps z=>⟨#[],by rw [Array.append_empty];exact sn _ _ z⟩⟩ (fun b u e=>?_) I.bare fun b z=>absurd z (by simp)
  by_cases hb:b=x
  · subst hb
    rw [aJ] at e;cases e
    exact ⟨e1,⟨o,_,e1,by rw [← ho],by rw [← ho]⟩,⟨o,e1⟩,fun h1 h2 ⟨o1,w1,e1,e2,e3⟩ k=>⟨o1,w1,k _ e1,e2,e3⟩⟩
  · rw [aK hb] at e
    exact ((I.hok.kept hm.keeps) b u e).stay (fun _ _ _ z=>z) (fun c z=>sn _ _ z) fun c xs z=>sn _ _ z
theorem a6S {pins:List (Addr×Obj)} {σ:St} {H:Hp} {s:Shared} {us:List Value} {G:Gp} {R:dG} {Q:VK} (Fn:ExcBaseFacts Bn newId inN bmN) (hBn:bmB.contains (.type Bn)=true) (FB:ExcBaseFacts B nid initId bmB) (hq:PySem.W.excIn X.K C bmB newId=true) (I:Inv X pins σ H s) (g:HR X.K H G) (hl:us.length≤sizeLine) (q:∀ x,G x=none→R (.ref x) (aL G x (.z9 C)))
    (k:∀ v H' d G',Ts H H'→RD X.K H' d v→HR X.K H' G'→R d G'→Q v H'):wpAny (model X.prog X.w) X.A (call (.ref C) us) (EP X pins σ Q) X.xe s:=by
  obtain ⟨tl,N,nm,q',bs,hdct,sn,sub,ab,col,dd',k0,k1,k2,k3,k5,mN,hC,hN,hni,T⟩:=zA I.mod.kin hq
  obtain ⟨h,g0,d0,t0,os0⟩:=s
  refine wpAny_call_exc_subU (hrest:=hl) Fn hBn FB (T.keeps I.bk) (I.bk _ _ hC) (hN.keeps I.bk) hni fun h' x hm=>?_
  obtain ⟨o,vs,nx,J,d1,d2⟩:=ae9 I hm
  have sn:Same H (upd H x (.mZ o (.ext (tY C x)))):=bB nx
  exact ⟨.ref x,_,J,rfl,k _ _ _ _ (.same sn) (.ref x) (g.put (u := .z9 C) nx ⟨o,vs,aJ,d1,d2⟩) (q x (lQ (K:=X.K) g nx (rK (X:=X) J)))⟩
theorem asT (Fn:ExcBaseFacts Bn newId inN bmN) (hBn:bmB.contains (.type Bn)=true) (FB:ExcBaseFacts B nid initId bmB) (hg:Gl X x) (hm:X.mg x=some (.ref C)) (hq:PySem.W.excIn X.K C bmB newId=true) (ha:PA3 X (e :: es) t) (hd:(x == ("__debug__" : Str))=false)
    (he:starEach (e :: es) X.env=(false,eval e X.env) :: starEach es X.env) (hpl:(backTo cpos (starEach es X.env)).any (·.1)=false):cI X (.Call (.Name x np) (e :: es) [] cpos) (ae8 C t):=by
  intro pins s σ H Q I h _tk
  obtain ⟨ρ,G,R,sr,g,q,kk⟩:=h
  obtain ⟨tl,N,nm,q',bs,hdct,sn,sub,ab,col,dd',k0,k1,k2,k3,k5,mN,hC,hN,hni,T⟩:=zA I.mod.kin hq
  refine wpAny_Call_ofName (fU I hg hm ?_ hd)
  unfold callWith
  have hA:=ha cpos pins s σ H (fun vs H1=>Ts H H1∧∃ ds G1,bM X.K H1 ds vs∧HR X.K H1 G1∧ds.length≤sizeLine∧∀ x,G1 x=none→R (.ref x) (aL G1 x (.z9 C))) I ⟨ρ,G,_,sr,g,q,fun vs H1 ds G1 t1 r1 g1 q1=>⟨t1,ds,G1,r1,g1,q1.1,q1.2⟩⟩
  have hp2:(backTo cpos (starEach (e :: es) X.env)).any (·.1)=false:=by rw [he];show (false || (backTo cpos (starEach es X.env)).any (·.1))=false;rw [hpl];rfl
  rw [he] at hA hp2 ⊢
  refine wpAny_bind (wpAny_holding (Calls.evalArgs_plain (cV hA fun us s2 ⟨vs,H2,I2,r2,t1,ds,G1,r1,g1,hl,q1⟩=>wpAny_bind (wpAny_standAt ?_))))
  have hl2:us.length≤sizeLine:=by rw [← r2.length,← r1.length];exact hl
  simp only [hp2]
  obtain ⟨h0,g0,d0,t0,os0⟩:=s2
  refine wpAny_bind (wpAny_keeperOf_exc (I2.bk _ _ hC) ?_)
  refine wpAny_bind (cV (a6S Fn hBn FB hq I2 g1 hl2 q1 fun v H' d G' t3=>kk v H' d G' (t1.trans t3)) fun v s3 q3=>wpAny_bind (wpAny_holding (wpAny_point (wpAny_pure q3))))
theorem anY (Fn:ExcBaseFacts Bn newId inN bmN) (hBn:bmB.contains (.type Bn)=true) (FB:ExcBaseFacts B nid initId bmB) (hg:Gl X x) (hm:X.mg x=some (.ref C)) (hq:PySem.W.excIn X.K C bmB newId=true) (hd:(x == ("__debug__" : Str))=false):cI X (.Call (.Name x np) [] [] cpos) (ae8 C aC):=by
  intro pins s σ H Q I h _tk
  obtain ⟨ρ,G,R,sr,g,⟨hl,q⟩,kk⟩:=h
  obtain ⟨tl,N,nm,q',bs,hdct,sn,sub,ab,col,dd',k0,k1,k2,k3,k5,mN,hC,hN,hni,T⟩:=zA I.mod.kin hq
  refine wpAny_Call_ofName (fU I hg hm ?_ hd)
  unfold callWith
  refine wpAny_bind (wpAny_holding (PySem.evalArgs_none (wpAny_bind (wpAny_standAt ?_))))
  obtain ⟨h0,g0,d0,t0,os0⟩:=s
  refine wpAny_bind (wpAny_keeperOf_exc (I.bk _ _ hC) ?_)
  refine wpAny_bind (cV (a6S (us:=[]) Fn hBn FB hq I g (Nat.zero_le _) q kk) fun v s3 q3=>wpAny_bind (wpAny_holding (wpAny_point (wpAny_pure q3))))
end
end L2
namespace L2
open PySem PySem.Spec PyProof.Rows
section
variable {X:Cx} {o e value:Expr} {f:Str} {C:Addr} {pos pos':Pos} {ta tv:cB}
end
section
variable {X:Cx} {qt:Bool} {k:Nat} {f C:Addr} {fd:FuncData} {ps:List Str} {sp:rA} {EX:aN→aX} {x m:Str} {p pos apos:Pos} {o e:Expr} {es:List Expr} {t:n6} {ta:cB} {dd:List D} {v8:List V} {ds:List Value}
def a8C (C:Addr) (sp:rA) (dd:List D) (EX:aN→aX) (t:n6):cB:=fun ρ G R=>t ρ G fun ds G1=>∀ x,G1 x=none→sp (.ref x :: (ds++dd)) (aL G1 x (.ins C [])) (fun v G2=>v = .non∧R (.ref x) G2) (EX ρ)
theorem a3D {pins:List (Addr×Obj)} {σ:St} {H:Hp} {s:Shared} {G:Gp} {R:dG} {Q:VK} {us:List Value} {vs:List V} {oE:List D} {ρ:aN} (M:Mk X.K C f) (F:cR qt X.prog X.w X.K X.mg X.base (kJ X.prog X.w) k f fd ps (cT X.K sp)) (hr:cH qt (k+1) X.A) (hb:Binds X.K fd ps ds) (hd:Vals v8 ds) (hdd:∀ H,bM X.K H dd v8) (hx:Cat X EX)
    (I:Inv X pins σ H s) (sr:SR X.K H ρ σ) (g:HR X.K H G) (r:Vals vs us) (r2:bM X.K H oE vs) (h:∀ x,G x=none→sp (.ref x :: (oE++dd)) (aL G x (.ins C [])) (fun v G2=>v = .non∧R (.ref x) G2) (EX ρ))
    (hQ:∀ v H' d G',Ts H H'→RD X.K H' d v→HR X.K H' G'→R d G'→Q v H'):wpAny (model X.prog X.w) X.A (call (.ref C) us) (EP X pins σ Q) X.xe s:=by
  have n1:H (s.heap.objs.size+1)=none:=I.hok.fresh (Nat.le_succ _)
  have n0:H s.heap.objs.size=none:=I.hok.fresh (Nat.le_refl _)
  have ne:s.heap.objs.size+1≠s.heap.objs.size:=Nat.succ_ne_self _
  have I2:=Inv.made (C:=C) I
  have kl:X.K.lookup (s.heap.objs.size+1)=none:=by
    cases q:X.K.lookup (s.heap.objs.size+1) with
    | none=>rfl
    | some u=>have:=rK I2 _ u q;rw [aJ] at this;cases this
  have gn:G (s.heap.objs.size+1)=none:=lQ (o := .ins C s.heap.objs.size []) g n1 fun b u e=>by
    by_cases c:b=s.heap.objs.size+1
    · subst c;rw [kl] at e;cases e
    · rw [aK c];exact rK I b u e
  have t1:Ts H (upd H s.heap.objs.size (.own (s.heap.objs.size+1))) := .same (bB n0)
  have n1':upd H s.heap.objs.size (.own (s.heap.objs.size+1)) (s.heap.objs.size+1)=none:=by rw [aK ne];exact n1
  have t2:Ts (upd H s.heap.objs.size (.own (s.heap.objs.size+1))) (upd (upd H s.heap.objs.size (.own (s.heap.objs.size+1))) (s.heap.objs.size+1) (.ins C s.heap.objs.size [])) := .same (bB n1')
  have g1:HR X.K (upd H s.heap.objs.size (.own (s.heap.objs.size+1))) G:=g.same (bB n0)
  have g2:HR X.K (upd (upd H s.heap.objs.size (.own (s.heap.objs.size+1))) (s.heap.objs.size+1) (.ins C s.heap.objs.size [])) (aL G (s.heap.objs.size+1) (.ins C [])):=g1.put n1' ⟨s.heap.objs.size,[],aJ,.nil⟩
  have hq:cT X.K sp (V.ref (s.heap.objs.size+1) :: (vs++v8)) (upd (upd H s.heap.objs.size (.own (s.heap.objs.size+1))) (s.heap.objs.size+1) (.ins C s.heap.objs.size [])) (fun v H'=>v = .non∧∃ G',HR X.K H' G'∧R (.ref (s.heap.objs.size+1)) G') (vP X.K (EX ρ)) :=
    ⟨.ref (s.heap.objs.size+1) :: (oE++dd),_,_,EX ρ,.cons (.ref _) (((r2.mono t1).mono t2).append (hdd _)),g2,h _ gn,fun v H' d G' r3 g3 q3=>by
      obtain ⟨rfl,q3⟩:=q3
      cases r3
      exact ⟨rfl,G',g3,q3⟩,fun C H' G' g' q'=>⟨C,G',rfl,g',q'⟩⟩
  have rr:Vals (V.ref (s.heap.objs.size+1) :: (vs++v8)) (Value.ref (s.heap.objs.size+1) :: (us++ds)) := .cons rfl (r.append hd)
  have hl:(Value.ref (s.heap.objs.size+1) :: us++ds).length=ps.length:=by
    have e:=rr.length
    rw [F.len _ _ _ _ hq] at e
    exact e.symm
  refine wpAny_call (acY (f:=f) I.xV M.makes M.init (beq_iff_eq.mp M.fn) (codeAny_mono (F.run _ X.stack _ _ ⟨Value.ref (s.heap.objs.size+1) :: us,[]⟩ (Value.ref (s.heap.objs.size+1) :: (us++ds)) _ _ _ (hr.make C us [])
    (I2.env0.make C us []) (hb _ (Value.ref (s.heap.objs.size+1) :: us) I2.xV hl) rr hq) fun r s' hq'=>?_))
  cases r with
  | error e=>exact hx.a6B pins σ _ _ ρ e s' I2 ((sr.mono t1).mono t2) hq'
  | ok fl =>
    cases fl with
    | ret u =>
      obtain ⟨v,H',os,bare,un,hok,rv,ev,G',g3,q3⟩:=hq'
      subst ev
      exact ⟨rv,⟨V.ref (s.heap.objs.size+1),H',I2.call' (ch:=[]) os un hok bare (fun b z=>absurd z (by simp)),rfl,hQ _ H' (.ref _) G' ((t1.trans t2).trans ⟨un.tups,un.d9⟩) (.ref _) g3 q3⟩⟩
    | next=>exact False.elim hq'
    | brk=>exact False.elim hq'
    | cont=>exact False.elim hq'
theorem aiG (M:Mk X.K C f) (F:cR qt X.prog X.w X.K X.mg X.base (kJ X.prog X.w) k f fd ps (cT X.K sp)) (hr:cH qt (k+1) X.A) (hg:Gl X x) (hm:X.mg x=some (.ref C)) (hb:Binds X.K fd ps ds) (hd:Vals v8 ds) (hdd:∀ H,bM X.K H dd v8) (hx:Cat X EX)
    (ha:PA3 X (e :: es) t) (hdb:(x == ("__debug__" : Str))=false) (he:starEach (e :: es) X.env=(false,eval e X.env) :: starEach es X.env) (hpl:(backTo pos (starEach es X.env)).any (·.1)=false) :
    cI X (.Call (.Name x p) (e :: es) [] pos) (a8C C sp dd EX t):=by
  intro pins s σ H Q I h _tk
  obtain ⟨ρ,G,R,sr,g,q,kk⟩:=h
  refine wpAny_Call_Name_kw (fU I hg hm ?_ hdb)
  refine PySem.W.callWith_K (h₀:=X.base) I.ok.mod.kin M.kp (cV (ha pos pins s σ H (fun vs H1=>Ts H H1∧∃ ds G1,bM X.K H1 ds vs∧HR X.K H1 G1∧∀ x,G1 x=none→sp (.ref x :: (ds++dd)) (aL G1 x (.ins C [])) (fun v G2=>v = .non∧R (.ref x) G2) (EX ρ)) I ⟨ρ,G,_,sr,g,q,fun vs H1 ds G1 t1 r1 g1 q1=>⟨t1,ds,G1,r1,g1,q1⟩⟩) fun us s1 ⟨vs,H1,I1,r,t1,ds,G1,r1,g1,q1⟩=>⟨I1.xV,?_⟩) he hpl
  exact a3D M F hr hb hd hdd hx I1 (sr.mono t1) g1 r r1 q1 fun v H' d G' t2=>kk v H' d G' (t1.trans t2)
theorem aeA (M:Mk X.K C f) (F:cR qt X.prog X.w X.K X.mg X.base (kJ X.prog X.w) k f fd ps (cT X.K sp)) (hr:cH qt (k+1) X.A) (hg:Gl X x) (hm:X.mg x=some (.ref C)) (hb:Binds X.K fd ps ds) (hd:Vals v8 ds) (hdd:∀ H,bM X.K H dd v8) (hx:Cat X EX)
    (hdb:(x == ("__debug__" : Str))=false):cI X (.Call (.Name x p) [] [] pos) (a8C C sp dd EX aC):=by
  intro pins s σ H Q I h _tk
  obtain ⟨ρ,G,R,sr,g,q,kk⟩:=h
  refine wpAny_Call_Name_kw (fU I hg hm ?_ hdb)
  exact PySem.W.callWith_K0 I.xV M.kp (a3D (us:=[]) (vs:=[]) (oE:=[]) M F hr hb hd hdd hx I sr g .nil .nil q fun v H' d G' t2=>kk v H' d G' t2)
end
end L2
namespace L2
open PySem PySem.Spec PyProof.Rows
section
variable {X:Cx} {pins:List (Addr×Obj)} {σ:St} {H:Hp} {s:Shared} {h':Heap}
end
section
variable {X:Cx} {es:List Expr} {kt:Nat} {pt:Pos}
end
section
variable {prog:Program} {w:World} {A:Around} {R:Result→Shared→Prop} {I:Addr} {fp wr:List Addr} {n:Nat} {P:Nat→Value→Prop} {St:Nat→Heap→Prop} {kw:List (Str×Value)}
end
section
variable {X:Cx} {x:Str} {p pos kp:Pos} {e d:Expr} {te td:cB}
end
end L2
namespace L2
open PySem PySem.Spec PyProof.Rows
def asU:D→Option Key
  | .int i=>some (.inl i)
  | .str x=>some (.inr x)
  | _=>none
def anZ:List D→Option (List Key)
  | []=>some []
  | d :: r=>match asU d,anZ r with
    | some k,some ks=>some (k :: ks)
    | _,_=>none
def aeB:D→Option DK
  | .int i=>some (.inl (.inl i))
  | .str x=>some (.inl (.inr x))
  | _=>none
def a3E:DK→Bool
  | .inl _=>false
  | .inr _=>true
section
variable {κ:Type} [DecidableEq κ] {α:Type}
def qY:List (κ×α)→κ→Option α
  | [],_=>none
  | p :: r,k=>if p.1=k then some p.2 else qY r k
def abR (kvs:List (κ×α)) (k:κ) (v:α):List (κ×α):=if (qY kvs k).isSome=true then kvs.map (fun kv=>if kv.1=k then (kv.1,v) else kv) else kvs++[(k,v)]
end
abbrev yV {κ:Type} (K:Fg) (H:Hp) (f:κ→DK):List (DK×D)→List (κ×V)→Prop:=Two fun p q=>p.1=f q.1∧RD K H p.2 q.2
section
variable {κ:Type} [DecidableEq κ] {K:Fg} {H:Hp} {f:κ→DK}
theorem val_two (hf:∀ a b,f a=f b→a=b) {k:κ}:∀ {kvs:List (DK×D)} {xs:List (κ×V)},yV K H f kvs xs→(∀ d,qY kvs (f k)=some d→∃ v,uK xs k=some v∧RD K H d v)∧(qY kvs (f k)=none→uK xs k=none)
  | _,_,.nil=>⟨fun d e=>(nomatch e),fun _=>rfl⟩
  | p :: kvs,q :: xs,.cons h r=>by
    obtain ⟨h1,h2⟩:=h
    by_cases c:q.1=k
    · have c2:p.1=f k:=by rw [h1,c]
      unfold qY
      rw [if_pos c2,vC c]
      exact ⟨fun d e=>by cases e;exact ⟨_,rfl,h2⟩,fun e=>(nomatch e)⟩
    · have c2:¬ p.1=f k:=fun z=>c (hf _ _ (h1.symm.trans z))
      unfold qY
      rw [if_neg c2,vD c]
      exact val_two hf r
theorem aeC (hf:∀ a b,f a=f b→a=b) {k:κ} {kvs:List (DK×D)} {xs:List (κ×V)} (t:yV K H f kvs xs):(qY kvs (f k)).isSome=(uK xs k).isSome:=by
  have z:=val_two hf (k:=k) t
  cases e:qY kvs (f k) with
  | none=>rw [z.2 e];rfl
  | some d=>obtain ⟨v,e2,_⟩:=z.1 d e;rw [e2];rfl
theorem a9T {g:DK×D→DK×D} {h:κ×V→κ×V} (gh:∀ p q,p.1=f q.1∧RD K H p.2 q.2→(g p).1=f (h q).1∧RD K H (g p).2 (h q).2):∀ {kvs:List (DK×D)} {xs:List (κ×V)},yV K H f kvs xs→yV K H f (kvs.map g) (xs.map h)
  | _,_,.nil => .nil
  | _,_,.cons z r => .cons (gh _ _ z) (a9T gh r)
theorem a6T {p:DK×D} {q:κ×V} (z:p.1=f q.1∧RD K H p.2 q.2):∀ {kvs:List (DK×D)} {xs:List (κ×V)},yV K H f kvs xs→yV K H f (kvs++[p]) (xs++[q])
  | _,_,.nil => .cons z .nil
  | _,_,.cons y r => .cons y (a6T z r)
theorem a9U (hf:∀ a b,f a=f b→a=b) {k:κ} {d:D} {v:V} (rd:RD K H d v) {kvs:List (DK×D)} {xs:List (κ×V)} (t:yV K H f kvs xs):yV K H f (abR kvs (f k) d) (putK xs k v):=by
  unfold abR putK
  rw [zQ,aeC hf t]
  split
  · refine a9T (fun p q ⟨h1,h2⟩=>?_) t
    by_cases c:q.1=k
    · rw [if_pos (show p.1=f k by rw [h1,c]),if_pos c]
      exact ⟨h1,rd⟩
    · rw [if_neg (show ¬ p.1=f k from fun z=>c (hf _ _ (h1.symm.trans z))),if_neg c]
      exact ⟨h1,h2⟩
  · exact a6T (p:=(f k,d)) (q:=(k,v)) ⟨rfl,rd⟩ t
end
theorem a4S (a b:Key) (h:(Sum.inl a:DK) = .inl b):a=b:=by cases h;rfl
theorem a4T (a b:List Key) (h:(Sum.inr a:DK) = .inr b):a=b:=by cases h;rfl
def yF (x y:D) (G:Gp) (P:Addr→Bool→List (DK×D)→DK→Prop):Prop:=match x with
  | .ref a=>(match G a,aeB y with
    | some (.tV t kvs),some k=>a3E k=t∧P a t kvs k
    | _,_=>False)
  | _=>False
def a06 (K:Fg) (H:Hp) (a:Addr) (vy:V) (kvs:List (DK×D)) (k:DK):Prop :=
  (∃ k' xs,k = .inl k'∧H a=some (.dK xs)∧yV K H .inl kvs xs∧vy=kV k')∨∃ ks xs b,k = .inr ks∧H a=some (.dT xs)∧yV K H .inr kvs xs∧vy = .ref b∧H b=some (.tup (ks.map kV))
theorem a4U {K:Fg} {H:Hp} {y:D} {vy:V} {k:DK} (ry:RD K H y vy) (e:aeB y=some k):(∃ k',k = .inl k'∧vy=kV k')∨∃ ks b,k = .inr ks∧vy = .ref b∧H b=some (.tup (ks.map kV)):=by
  cases ry with
  | int i=>cases e;exact .inl ⟨_,rfl,rfl⟩
  | str x=>cases e;exact .inl ⟨_,rfl,rfl⟩
  | _=>cases e
theorem a6U {K:Fg} {H:Hp} {x y:D} {vx vy:V} {G:Gp} {P:Addr→Bool→List (DK×D)→DK→Prop} (rx:RD K H x vx) (ry:RD K H y vy) (g:HR K H G) (h:yF x y G P) :
    ∃ a kvs k,x = .ref a∧vx = .ref a∧G a=some (.tV (a3E k) kvs)∧aeB y=some k∧P a (a3E k) kvs k∧a06 K H a vy kvs k:=by
  unfold yF at h
  split at h
  · rename_i a
    split at h
    · rename_i t kvs k e1 e2
      obtain ⟨rfl,h⟩:=h
      cases rx
      refine ⟨a,kvs,k,rfl,rfl,e1,e2,h,?_⟩
      rcases g a _ e1 with ⟨z,xs,e3,r⟩ | ⟨z,xs,e3,r⟩
      · rcases a4U ry e2 with ⟨k',rfl,rfl⟩ | ⟨ks,b,rfl,_⟩
        · exact .inl ⟨k',xs,rfl,e3,r,rfl⟩
        · cases z
      · rcases a4U ry e2 with ⟨k',rfl,rfl⟩ | ⟨ks,b,rfl,rfl,eb⟩
        · cases z
        · exact .inr ⟨ks,xs,b,rfl,e3,r,rfl,eb⟩
    · exact h.elim
  · exact h.elim
theorem a06.get {K:Fg} {H:Hp} {a:Addr} {vy:V} {kvs:List (DK×D)} {k:DK} (h:a06 K H a vy kvs k):(∀ d,qY kvs k=some d→∃ v,wU H a vy (some v)∧RD K H d v)∧(qY kvs k=none→wU H a vy none):=by
  rcases h with ⟨k',xs,rfl,e,r,rfl⟩ | ⟨ks,xs,b,rfl,e,r,rfl,eb⟩
  · have z:=val_two a4S (k:=k') r
    exact ⟨fun d e2=>(z.1 d e2).elim fun v q=>⟨v,by rw [← q.1];exact .k e,q.2⟩,fun e2=>by rw [← z.2 e2];exact .k e⟩
  · have z:=val_two a4T (k:=ks) r
    exact ⟨fun d e2=>(z.1 d e2).elim fun v q=>⟨v,by rw [← q.1];exact .t e eb,q.2⟩,fun e2=>by rw [← z.2 e2];exact .t e eb⟩
theorem a06.any {K:Fg} {H:Hp} {a:Addr} {vy:V} {kvs:List (DK×D)} {k:DK} (h:a06 K H a vy kvs k):∃ o,wU H a vy o∧o.isSome=(qY kvs k).isSome∧∀ d v,RD K H d v→RD K H ((qY kvs k).getD d) (o.getD v):=by
  have z:=h.get
  cases e:qY kvs k with
  | none=>exact ⟨none,z.2 e,rfl,fun d v r=>r⟩
  | some d=>obtain ⟨v,g,r⟩:=z.1 d e;exact ⟨some v,g,rfl,fun _ _ _=>r⟩
theorem a06.put {K:Fg} {H:Hp} {G:Gp} {a:Addr} {vy v:V} {d:D} {kvs:List (DK×D)} {k:DK} (g:HR K H G) (h:a06 K H a vy kvs k) (rv:RD K H d v) (hl:kvs.length < sizeLine):∃ H',abA H a vy v H'∧Ts H H'∧HR K H' (aL G a (.tV (a3E k) (abR kvs k d))):=by
  rcases h with ⟨k',xs,rfl,e,r,rfl⟩ | ⟨ks,xs,b,rfl,e,r,rfl,eb⟩
  · have tt:Ts H (upd H a (.dK (putK xs k' v))) := .turn e (fun _ z=>nomatch z) (fun _ _ z=>nomatch z)
    exact ⟨_,.k e (by rw [← r.length];exact hl),tt,g.turn (u := .tV false _) tt (.inl ⟨rfl,_,aJ,(a9U a4S rv r).imp fun _ _ q=>⟨q.1,q.2.mono tt⟩⟩)⟩
  · have tt:Ts H (upd H a (.dT (putK xs ks v))) := .turn e (fun _ z=>nomatch z) (fun _ _ z=>nomatch z)
    exact ⟨_,.t e eb (by rw [← r.length];exact hl),tt,g.turn (u := .tV true _) tt (.inr ⟨rfl,_,aJ,(a9U a4T rv r).imp fun _ _ q=>⟨q.1,q.2.mono tt⟩⟩)⟩
def aeD (G:Gp) (a:Addr):Option (Bool×List (DK×D)):=match G a with
  | some (.tV t kvs)=>some (t,kvs)
  | some (.rdc _ t kvs)=>some (t,kvs)
  | _=>none
theorem aeE {K:Fg} {H:Hp} {G:Gp} {a:Addr} {t:Bool} {kvs:List (DK×D)} (g:HR K H G) (e:aeD G a=some (t,kvs)) :
    (t=false∧∃ xs:List (Key×V),Rd H a (.dK xs)∧yV K H .inl kvs xs)∨(t=true∧∃ xs:List (List Key×V),Rd H a (.dT xs)∧yV K H .inr kvs xs):=by
  unfold aeD at e
  split at e
  · rename_i t' kvs' q
    cases e
    rcases g a _ q with ⟨z,xs,e2,tw⟩ | ⟨z,xs,e2,tw⟩
    · exact .inl ⟨z,xs,.inl e2,tw⟩
    · exact .inr ⟨z,xs,.inl e2,tw⟩
  · rename_i o t' kvs' q
    cases e
    rcases g a _ q with ⟨z,xs,e2,tw⟩ | ⟨z,xs,e2,tw⟩
    · exact .inl ⟨z,xs,.inr ⟨o,e2⟩,tw⟩
    · exact .inr ⟨z,xs,.inr ⟨o,e2⟩,tw⟩
  · cases e
def a8D (x y:D) (G:Gp) (P:List (DK×D)→DK→Prop):Prop:=match x with
  | .ref a=>(match aeD G a,aeB y with
    | some (t,kvs),some k=>a3E k=t∧P kvs k
    | _,_=>False)
  | _=>False
theorem abS {K:Fg} {H:Hp} {x y:D} {vx vy:V} {G:Gp} {P:List (DK×D)→DK→Prop} (rx:RD K H x vx) (ry:RD K H y vy) (g:HR K H G) (h:a8D x y G P) :
    ∃ a kvs k,x = .ref a∧vx = .ref a∧P kvs k∧∀ d,qY kvs k=some d→∃ v,wU H a vy (some v)∧RD K H d v:=by
  unfold a8D at h
  split at h
  · rename_i a
    split at h
    · rename_i t kvs k e1 e2
      obtain ⟨rfl,h⟩:=h
      cases rx
      refine ⟨a,kvs,k,rfl,rfl,h,fun d ed=>?_⟩
      rcases aeE g e1 with ⟨z,xs,e3,r⟩ | ⟨z,xs,e3,r⟩
      · rcases a4U ry e2 with ⟨k',rfl,rfl⟩ | ⟨ks,b,rfl,_⟩
        · obtain ⟨v,e4,rv⟩:=(val_two a4S (k:=k') r).1 d ed
          exact ⟨v,.inl ⟨xs,k',e3,rfl,e4.symm⟩,rv⟩
        · cases z
      · rcases a4U ry e2 with ⟨k',rfl,rfl⟩ | ⟨ks,b,rfl,rfl,eb⟩
        · cases z
        · obtain ⟨v,e4,rv⟩:=(val_two a4T (k:=ks) r).1 d ed
          exact ⟨v,.inr ⟨xs,ks,b,e3,rfl,eb,e4.symm⟩,rv⟩
    · exact h.elim
  · exact h.elim
def ao0:R3:=fun x y G R=>a8D x y G fun kvs k=>match qY kvs k with
  | some d=>R d G
  | none=>False
section
variable {X:Cx} {o i value e f:Expr} {to ti tv te tf:cB} {pos pos' apos cpos:Pos}
theorem az1 (hu:X.A.units+64 < cLine) (ho:cI X o to) (hi:cI X i ti) (hs:amH i):cI X (.Subscript o i pos) (aG ao0 to ti):=by
  refine PE.imp (ah4 (by omega) ho hi hs) fun σ H Q h=>?_
  obtain ⟨ρ,G,R,s,g,t,k⟩:=h
  refine ⟨ρ,G,_,s,g,t,fun vx H1 x G1 t1 rx g1 t'=>?_⟩
  refine ⟨ρ,G1,_,s.mono t1,g1,t',fun vy H2 y G2 t2 ry g2 t''=>?_⟩
  obtain ⟨a,kvs,kk,rfl,rfl,q,dd⟩:=abS (rx.mono t2) ry g2 t''
  split at q
  · rename_i d e2
    obtain ⟨v,gg,rv⟩:=dd d e2
    exact ⟨a,v,rfl,gg,k v H2 d G2 (t1.trans t2) rv g2 q⟩
  · exact q.elim
def xF (x:D) (G:Gp):Prop:=match x with
  | .ref a=>(match G a with
    | some (.tV _ _)=>True
    | _=>False)
  | _=>False
theorem abT {K:Fg} {H:Hp} {G:Gp} {x:D} {vx:V} (rx:RD K H x vx) (g:HR K H G) (h:xF x G):∃ a,x = .ref a∧vx = .ref a∧IsD H a:=by
  unfold xF at h
  split at h
  · rename_i a
    split at h
    · rename_i t kvs e
      cases rx
      rcases g a _ e with ⟨_,xs,e2,_⟩ | ⟨_,xs,e2,_⟩
      · exact ⟨a,rfl,rfl,.inl ⟨xs,.inl e2⟩⟩
      · exact ⟨a,rfl,rfl,.inr ⟨xs,.inl e2⟩⟩
    · exact h.elim
  · exact h.elim
def zE (to te tf:cB):cB:=fun ρ G R=>to ρ G fun x G1=>xF x G1∧te ρ G1 fun y G2=>tf ρ G2 fun z G3=>yF x y G3 fun _ _ kvs k=>R ((qY kvs k).getD z) G3
theorem aiH (hu:X.A.units+64 < cLine) (ho:cI X o to) (he:cI X e te) (hf:cI X f tf) (m:M2 X o "get" apos e f cpos):cI X (.Call (.Attribute o "get" apos) [e,f] [] cpos) (zE to te tf):=by
  refine PE.imp (ad1 (by omega) ho he hf m) fun σ H Q h=>?_
  obtain ⟨ρ,G,R,s,g,t,k⟩:=h
  refine ⟨ρ,G,_,s,g,t,fun vx H1 x G1 t1 rx g1 t'=>?_⟩
  obtain ⟨isd,t'⟩:=t'
  obtain ⟨a,rfl,rfl,ia⟩:=abT rx g1 isd
  refine ⟨a,rfl,ia,?_⟩
  refine ⟨ρ,G1,_,s.mono t1,g1,t',fun vy H2 y G2 t2 ry g2 t''=>?_⟩
  refine ⟨ρ,G2,_,s.mono (t1.trans t2),g2,t'',fun vz H3 z G3 t3 rz g3 t4=>?_⟩
  obtain ⟨a',kvs,kk,e,_,e1,_,q,dd⟩:=a6U (rx.mono (t2.trans t3)) (ry.mono t3) g3 t4
  cases e
  obtain ⟨o,gg,eo,hd⟩:=dd.any
  exact ⟨o,gg,k _ H3 _ G3 ((t1.trans t2).trans t3) (hd z vz rz) g3 q⟩
end
end L2
namespace L2
open PySem PySem.Spec PyProof.Rows
section
variable {prog:Program} {w:World} {K:Type} [DecidableEq K] {knd:HeapKind prog w K} {A:Around} {E:Value→Shared→Prop} {s:Shared} {d a:Addr} {k:K} {xs:List (K×Addr×Value)}
def a6V (xs:List (K×Addr×Value)) (k:K):List (K×Addr×Value):=xs.filter fun x=>decide (x.1≠k)
end
theorem KT.drop {H:Hp} {kvs:List (List Key×V)} {xs:List (List Key×Addr×Value)} (r:KT H kvs xs) (k:List Key):KT H (a99 kvs k) (a6V xs k):=by
  unfold a99 a6V
  induction r with
  | nil=>exact .nil
  | @cons p q ps qs h t ih =>
    rw [List.filter_cons,List.filter_cons]
    by_cases e:p.1=k
    · rw [if_neg (by simp [e]),if_neg (by simp [h.1.symm.trans e])]
      exact ih
    · rw [if_pos (by simp [e]),if_pos (by simp;exact fun z=>e (h.1.trans z))]
      exact .cons h ih
section
variable {X:Cx}
end
end L2
namespace L2
open PySem PySem.Spec PyProof.Rows PySem.W
section
variable {cmp:Nat→Nat→(Bool→Shared→Prop)→Shared→Prop} {I:Shared→Prop} {kf:Nat→Int}
structure Pm (n:Nat) (p:Array Nat):Prop where
  size:p.size=n
  perm:p.toList.Perm (List.range n)
theorem Pm.lt {n:Nat} {p:Array Nat} (h:Pm n p) {i:Nat} (hi:i < n):p.getD i 0 < n:=by
  have hs:i < p.size:=by rw [h.size];exact hi
  have e:p.getD i 0=p[i]:=by simp [Array.getD,hs]
  rw [e]
  exact List.mem_range.mp (h.perm.mem_iff.mp (by simp))
theorem Pm.inj {n:Nat} {p:Array Nat} (h:Pm n p) {i j:Nat} (hi:i < n) (hj:j < n) (e:p.getD i 0=p.getD j 0):i=j:=by
  have hs:i < p.size:=by rw [h.size];exact hi
  have ht:j < p.size:=by rw [h.size];exact hj
  have nd:p.toList.Nodup:=(h.perm.nodup_iff).mpr List.nodup_range
  have e1:p.getD i 0=p[i]:=by simp [Array.getD,hs]
  have e2:p.getD j 0=p[j]:=by simp [Array.getD,ht]
  rw [e1,e2] at e
  have key:=List.pairwise_iff_getElem.mp nd
  have hs':i < p.toList.length:=by simpa using hs
  have ht':j < p.toList.length:=by simpa using ht
  rcases Nat.lt_trichotomy i j with c | c | c
  · exact absurd (by simpa using e) (key i j hs' ht' c)
  · exact c
  · exact absurd (by simpa using e.symm) (key j i ht' hs' c)
end
section
variable {prog:Program} {w:World} {A:Around} {E:Value→Shared→Prop} {s:Shared}
end
def asV (a b:Int×Int):Prop:=a.1 < b.1∨(a.1=b.1∧a.2 < b.2)
instance (a b:Int×Int):Decidable (asV a b):=by unfold asV;infer_instance
section
variable {prog:Program} {w:World} {A:Around} {E:Value→Shared→Prop} {s:Shared}
end
end L2
namespace L2
open PySem PySem.Spec PyProof.Rows PySem.W
section
variable {X:Cx}
end
end L2
namespace L2
open PySem PySem.Spec PyProof.Rows PySem.W
def a07 (h:Heap) (d:Addr) (es:Array DictEntry) (ep:Nat):Prop:=∃ o,h.get? d=some o∧o.ExactDict∧o.data = .dict es ep
section
variable {prog:Program} {w:World} {A:Around} {E:Value→Shared→Prop} {s:Shared} {d it:Addr} {es:Array DictEntry} {ep i:Nat}
theorem a07.typeIs (hm:a07 s.heap d es ep):s.TypeIs (.ref d) "dict" := let ⟨o,ho,hc,_⟩:=hm;⟨o,ho,hc.1⟩
theorem a07.lt {h:Heap} (hm:a07 h d es ep):d < h.objs.size:=let ⟨_,ho,_⟩:=hm;Heap.lt_size ho
theorem a07.at {h h':Heap} (hm:a07 h d es ep) (k:∀ o,h.get? d=some o→h'.get? d=some o):a07 h' d es ep:=let ⟨o,ho,r⟩:=hm;⟨o,k o ho,r⟩
end
end L2
namespace L2
open PySem PySem.Spec PyProof.Rows PySem.W
section
variable {X:Cx} {tg:Expr}
end
section
variable {X:Cx} {tg:Expr}
end
end L2
namespace L2
open PySem PySem.Spec PyProof.Rows PySem.W
section
variable {prog:Program} {w:World} {A:Around} {E:Value→Shared→Prop} {s:Shared}
abbrev TK (prog:Program) (w:World):=tupleKind (c7 prog w)
def asW (prog:Program) (w:World) (h:Heap) (v:Value) (x:List Key×Addr×Value):Prop:=∃ p o n,v = .ref p∧h.get? p=some o∧o.cls = .type "tuple" ∧ o.data = .seq #[.ref x.2.1,x.2.2] n∧(TK prog w).is h x.1 x.2.1
theorem a9V {h h':Heap} {ks:List Key} {a:Addr} (x:(TK prog w).is h ks a) (k:∀ o,h.get? a=some o→h'.get? a=some o):(TK prog w).is h' ks a:=by
  obtain ⟨o,its,n,h1,r⟩:=x
  exact ⟨o,its,n,k _ h1,r⟩
def aiI (prog:Program) (w:World) (I d:Addr) (h:Heap) (v:Value) (x:List Key×Addr×Value):Prop:=∃ p o n,v = .ref p∧h.get? p=some o∧o.cls = .type "tuple" ∧ o.data = .seq #[.ref x.2.1,x.2.2] n∧(TK prog w).is h x.1 x.2.1∧p≠I∧p≠d∧x.2.1≠I∧x.2.1≠d
theorem aiI.keep {I d:Addr} {h h':Heap} {v:Value} {x:List Key×Addr×Value} (q:aiI prog w I d h v x) (k:∀ b o,b≠d→b≠I→h.get? b=some o→h'.get? b=some o):aiI prog w I d h' v x:=by
  obtain ⟨p,o,n,e,h1,h2,h3,h4,h5,h6,h7,h8⟩:=q
  exact ⟨p,o,n,e,k _ _ h6 h5 h1,h2,h3,a9V h4 fun o e=>k _ _ h8 h7 e,h5,h6,h7,h8⟩
theorem asW.ok {I d:Addr} {h h':Heap} {v:Value} {x:List Key×Addr×Value} (q:asW prog w h v x) (hI:h.objs.size≤I) (hd:h.objs.size≤d) (k:∀ b o,h.get? b=some o→h'.get? b=some o):aiI prog w I d h' v x:=by
  obtain ⟨p,o,n,e,h1,h2,h3,h4⟩:=q
  have l1:=Heap.lt_size h1
  have l2:x.2.1 < h.objs.size:=by
    obtain ⟨o2,its,n2,z,_⟩:=id h4
    exact Heap.lt_size z
  exact ⟨p,o,n,e,k _ _ h1,h2,h3,a9V h4 fun o e=>k _ _ e,Nat.ne_of_lt (Nat.lt_of_lt_of_le l1 hI),Nat.ne_of_lt (Nat.lt_of_lt_of_le l1 hd),Nat.ne_of_lt (Nat.lt_of_lt_of_le l2 hI),Nat.ne_of_lt (Nat.lt_of_lt_of_le l2 hd)⟩
end
end L2
namespace L2
open PySem PySem.Spec PyProof.Rows PySem.W
inductive Prs (K:Fg) (H:Hp):List (List Key×D)→List (List Key×Addr×Value)→Prop where
  | nil:Prs K H [] []
  | cons {ks:List Key} {b:Addr} {vz:V} {u:Value} {d:D} {kvs:List (List Key×D)} {ps:List (List Key×Addr×Value)}:H b=some (.tup (ks.map kV))→RD K H d vz→RelV vz u→Prs K H kvs ps→Prs K H ((ks,d) :: kvs) ((ks,b,u) :: ps)
theorem Prs.len {K:Fg} {H:Hp} {kvs:List (List Key×D)} {ps:List (List Key×Addr×Value)} (h:Prs K H kvs ps):kvs.length=ps.length:=by
  induction h with
  | nil=>rfl
  | cons _ _ _ _ ih=>simp [ih]
section
variable {X:Cx}
end
end L2
namespace L2
open PySem PySem.Spec PyProof.Rows
section
variable {X:Cx} {pins:List (Addr×Obj)} {σ:St} {H:Hp} {s:Shared} {i:Nat} {nm:Str}
end
end L2
namespace L2
open PySem PySem.Spec PyProof.Rows PySem.W
section
variable {prog:Program} {w:World} {A:Around} {E:Value→Shared→Prop} {s:Shared}
end
section
variable {X:Cx}
end
end L2
namespace L2
open PySem PySem.Spec PyProof.Rows Builtin.Str
section
variable {prog:Program} {w:World} {A:Around} {E:Value→Shared→Prop} {s:Shared}
theorem aiJ {x y:Str} {t u:Tok} {Q:Value→Shared→Prop} (hy:(y.length == 0)=false) (hsz:x.length+2≤sizeLine)
    (h:∀ l k,l.map (·.1)=Txt.split x y→Q (.ref s.heap.objs.size) { s with heap:=s.heap.push { cls := .type "list",data := .seq (strValues l).toArray },toks:=k }):wpAny (model prog w) A (call (.builtin "str.split") [.str x t,.str y u]) Q E s:=by
  have hn:(partsBetween x (occurrences x y 0 x.length (x.length+1)) y.length).length≤sizeLine:=by
    have e1:=StrLaws.occ_length_le x y 0 x.length (x.length+1)
    rw [length_partsBetween];omega
  cases h1:(decide (x.length < y.length) || decide (strKind x < strKind y))
  · cases hf:(occurrences x y 0 x.length (x.length+1)).isEmpty
    · refine call_meets F.slot_str_split (typeIs_str _ _ _) F.entry_str_split (F.args_str_split_2 _ _) (meets_str_split_sep x y t u h1 hy hf (by omega) hn) ?_
      show wants Q E _ { s with toks:=_,heap:=s.heap.push { cls := .type "list",data := .seq (strsFrom s.toks (partsBetween x (occurrences x y 0 x.length (x.length+1)) y.length)).toArray } }
      rw [strsFrom_eq]
      exact h (numbered s.toks _) _ ((numbered_texts _ _).trans ((if_neg (ne_true_of_eq_false h1)).trans (if_neg (ne_true_of_eq_false hf))).symm)
    · exact call_meets F.slot_str_split (typeIs_str _ _ _) F.entry_str_split (F.args_str_split_2 _ _) (meets_str_split_not_found x y t u h1 hy hf)
        (h [(x,t)] s.toks ((if_neg (ne_true_of_eq_false h1)).trans (if_pos hf)).symm)
  · exact call_meets F.slot_str_split (typeIs_str _ _ _) F.entry_str_split (F.args_str_split_2 _ _) (meets_str_split_cannot_occur x y t u h1) (h [(x,t)] s.toks (if_pos h1).symm)
end
theorem a3F:∀ l:List (Str×Tok),Vals ((l.map (·.1)).map V.str) (strValues l)
  | [] => .nil
  | p :: r => .cons ⟨p.2,rfl⟩ (a3F r)
theorem a6W {K:Fg} {H:Hp}:∀ l:List Str,bM K H (l.map D.str) (l.map V.str)
  | [] => .nil
  | x :: r => .cons (.str x) (a6W r)
section
variable {X:Cx}
def pW:RM3:=fun x xs G R=>match x,xs with
  | .str a,[.str b]=>(b.length == 0)=false∧a.length+2≤sizeLine∧(Txt.split a b).length≤sizeLine∧∀ q,G q=none→R (.ref q) (aL G q (.lst ((Txt.split a b).map D.str)))
  | _,_=>False
theorem m_split:vU X "str.split" pW:=fun pins s σ H x xs vx vs u us G R Q I rx rs ru rv g q k=>by
  cases rx with
  | str j =>
    cases rs with
    | nil=>exact False.elim q
    | cons r rr =>
      cases rr with
      | cons _ _=>cases r <;> exact False.elim q
      | nil =>
        cases r with
        | str i =>
          obtain ⟨t,rfl⟩:=ru
          obtain ⟨u2,rfl,t2,rfl⟩:=vals1 rv
          obtain ⟨q1,q2,q3,q4⟩:=q
          refine aiJ q1 q2 fun l tk e=>?_
          have fr:H s.heap.objs.size=none:=I.hok.fresh (Nat.le_refl _)
          have sn:Same H (upd H s.heap.objs.size (.lst ((Txt.split j i).map V.str))):=bB fr
          have J:Inv X pins σ (upd H s.heap.objs.size (.lst ((Txt.split j i).map V.str))) { s with heap:=s.heap.push { cls := .type "list",data := .seq (strValues l).toArray },toks:=tk } :=
            I.laid (t':=tk) (o := .lst _) (fun b o e=>Heap.get?_push_of_some _ e) (Nat.le_refl _) ⟨by rw [List.length_map];exact q3,_,0,by rw [← e];exact a3F l,Heap.get?_push_size _ rfl⟩
          exact ⟨.ref s.heap.objs.size,_,J,rfl,k _ _ (.ref _) _ (.same sn) (.ref _) (g.put (u := .lst _) fr ⟨_,aJ,a6W _⟩) (q4 _ (lQ g fr (rK J)))⟩
        | _=>exact False.elim q
  | _ =>
    cases rs with
    | nil=>exact False.elim q
    | cons r rr=>cases rr <;> cases r <;> exact False.elim q
def akX:List D→Gp→dG→Prop:=fun xs G R=>match xs with
  | [.int i]=>i.natAbs.log2 < 1920∧R (.str (toString i)) G
  | [.str z]=>R (.str z) G
  | _=>False
theorem a4V:rE X (.type "str") (fun xs H Q=>(∃ i,xs=[.int i]∧i.natAbs.log2 < 1920∧Q (.str (toString i)) H)∨∃ z,xs=[.str z]∧Q (.str z) H):=by
  intro pins s σ H xs us Q I r h
  rcases h with ⟨i,rfl,hz,q⟩ | ⟨z,rfl,q⟩
  · obtain ⟨u,rfl,t,rfl⟩:=vals1 r
    exact PySem.P.str_of_int hz ⟨.str _,H,I.tok _,⟨_,rfl⟩,q⟩
  · obtain ⟨u,rfl,t,rfl⟩:=vals1 r
    exact PySem.P.str_of_str ⟨.str _,H,I,⟨_,rfl⟩,q⟩
theorem asZ:eX X (.type "str") akX:=eX.of a4V fun H xs vs G R Q rx g q k=>by
  cases rx with
  | nil=>exact False.elim q
  | cons r rr =>
    cases rr with
    | cons _ _=>cases r <;> exact False.elim q
    | nil =>
      cases r with
      | int i=>exact .inl ⟨i,rfl,q.1,fun _=>k _ H _ G (.refl H) (.str _) g q.2⟩
      | str z=>exact .inr ⟨z,rfl,fun _=>k _ H _ G (.refl H) (.str _) g q⟩
      | _=>exact False.elim q
def vX:List D→Gp→dG→Prop:=fun xs G R=>match xs with
  | [.ref q]=>(match bH G q with
    | some ds=>R (.tup ds) G
    | none=>False)
  | _=>False
theorem aiK:eX X (.type "tuple") vX:=eX.of a1T fun H xs vs G R Q rx g q k=>by
  cases rx with
  | nil=>exact False.elim q
  | cons r rr =>
    cases rr with
    | cons _ _=>cases r <;> exact False.elim q
    | nil =>
      cases r with
      | ref a =>
        have q':(match bH G a with
          | some ds=>R (.tup ds) G
          | none=>False):=q
        split at q'
        · rename_i ds e1
          obtain ⟨xs,h1,r1⟩:=cA g e1
          refine ⟨a,xs,rfl,.inl ⟨h1,fun l hl kf=>?_⟩⟩
          have sn:Same H (upd H l (.tup xs)):=bB hl
          exact k _ _ _ _ (.same sn) (.tup (rD.of aJ) (r1.mono (.same sn)) (ahL aJ)) (g.same sn) q'
        · exact q'.elim
      | _=>exact False.elim q
end
end L2
namespace L2
open PySem PySem.Spec PyProof.Rows
section
variable {X:Cx} {pins:List (Addr×Obj)} {σ:St} {H:Hp} {s:Shared} {tl:List (Addr×List V)}
end
end L2
namespace L2
open PySem PySem.Spec PyProof.Rows PySem.W
section
variable {prog:Program} {w:World} {A:Around} {E:Value→Shared→Prop} {s:Shared}
def aiL (prog:Program) (w:World) (I d:Addr) (h:Heap) (v:Value) (x:Key×Value):Prop:=∃ p o n key,v = .ref p∧h.get? p=some o∧o.cls = .type "tuple" ∧ o.data = .seq #[key,x.2] n∧(c7 prog w).is x.1 key=true∧p≠I∧p≠d
theorem aiL.keep {I d:Addr} {h h':Heap} {v:Value} {x:Key×Value} (q:aiL prog w I d h v x) (k:∀ b o,b≠d→b≠I→h.get? b=some o→h'.get? b=some o):aiL prog w I d h' v x:=by
  obtain ⟨p,o,n,key,e,h1,h2,h3,h4,h5,h6⟩:=q
  exact ⟨p,o,n,key,e,k _ _ h6 h5 h1,h2,h3,h4,h5,h6⟩
def at4 (prog:Program) (w:World) (h:Heap) (v:Value) (x:Key×Value):Prop:=∃ p o n key,v = .ref p∧h.get? p=some o∧o.cls = .type "tuple" ∧ o.data = .seq #[key,x.2] n∧(c7 prog w).is x.1 key=true
theorem at4.ok {I d:Addr} {h h':Heap} {v:Value} {x:Key×Value} (q:at4 prog w h v x) (hI:h.objs.size≤I) (hd:h.objs.size≤d) (k:∀ b o,h.get? b=some o→h'.get? b=some o):aiL prog w I d h' v x:=by
  obtain ⟨p,o,n,key,e,h1,h2,h3,h4⟩:=q
  have l1:=Heap.lt_size h1
  exact ⟨p,o,n,key,e,k _ _ h1,h2,h3,h4,Nat.ne_of_lt (Nat.lt_of_lt_of_le l1 hI),Nat.ne_of_lt (Nat.lt_of_lt_of_le l1 hd)⟩
end
section
variable {X:Cx}
end
end L2
namespace L2
open PySem PySem.Spec PyProof.Rows PySem.W
section
variable {prog:Program} {w:World} {A:Around} {E:Value→Shared→Prop} {s:Shared}
end
section
variable {X:Cx}
end
end L2
namespace L2
open PySem PySem.Spec PyProof.Rows PySem.W
section
variable {prog:Program} {w:World} {A:Around} {E:Value→Shared→Prop} {s:Shared}
end
section
variable {X:Cx}
end
end L2
namespace L2
open PySem PySem.Spec PyProof.Rows PySem.W
section
variable {prog:Program} {w:World} {A:Around} {E:Value→Shared→Prop} {s:Shared}
section
variable {κ:Type} [DecidableEq κ] {knd:HeapKind prog w κ}
end
end
section
variable {X:Cx}
end
end L2
namespace L2
open PySem PySem.Spec PyProof.Rows PySem.W
section
variable {X:Cx} {A:Around} {E:Value→Shared→Prop}
theorem abU {pins:List (Addr×Obj)} {σ:St} {H H':Hp} {s:Shared} {a:Addr} {y v:V} {u r:Value} {Q:Unit→Shared→Prop} (hu:A.units < cLine) (I:Inv X pins σ H s) (g:abA H a y v H') (ry:RelV y u) (rv:RelV v r) (h:∀ s',Inv X pins σ H' s'→Q () s'):wpAny (model X.prog X.w) A (dictSet a u r) Q E s:=by
  rcases g with ⟨kvs,k,e,ey,l,eH⟩ | ⟨kvs,k,b,e,ey,eb,l,eH⟩
  · subst ey eH
    obtain ⟨z,hd,vs,rel,dd⟩:=aqU I.hok e
    have lp:=xW kvs k v
    refine wpAny_dictSet_pairs (hsz:=by rw [← rel.length];exact z) (a9A ry) dd fun h' d2 hs=>h _ (a9B I (by rw [e];exact True.intro) hs (let ⟨q,_,_,hq,_⟩:=d2;⟨q,hq⟩) (amG (by omega) hd (rel.put k rv) d2))
  · subst ey eH
    cases (show u=Value.ref b from ry)
    obtain ⟨z,hd,xs,rel,dd⟩:=aqV I.hok e
    have lp:=xW kvs k v
    refine wpAny_dictSet_heap (hsz:=by rw [← Paired.length rel];exact z) (show A.units < cLine from hu) (a3X I.hok eb) dd fun h' d2 hs=>h _ ?_
    obtain ⟨q,es,ep,hq,h2,h3,h4,_,h5⟩:=d2
    refine a9B I (by rw [e];exact True.intro) hs ⟨q,hq⟩ ⟨by omega,hd,_,(rel.put k eb rv).keeps fun c ys ec=>?_,q,es,ep,hq,h2,h3,h4,h5⟩
    rw [aK (rB ec e (fun z=>nomatch z))]
    exact ec
end
end L2
namespace L2
open PySem PySem.Spec PyProof.Rows PySem.W
structure Fz (X:Cx) (p:Addr):Prop where
  free:∀ ob,X.s₀.heap.get? p=some ob→X.H₀ p=none→p∈X.ex
  tup:∀ xs,X.H₀ p≠some (.tup xs)
  mZ:∀ o w,X.H₀ p≠some (.mZ o w)
  xU:∀ ps,X.H₀ p≠some (.xU ps)
section
variable {X:Cx} {pins:List (Addr×Obj)} {σ:St} {H:Hp} {s:Shared}
theorem Fz.of {p:Addr} {u:HO} (I:Inv X pins σ H s) (hu:H p=some u) (h1:∀ xs,u ≠ .tup xs) (h2:∀ ob w,u ≠ .mZ ob w) (h3:∀ ps,u ≠ .xU ps):Fz X p:=by
  refine ⟨fun ob q n=>?_,fun xs q=>?_,fun o w q=>?_,fun ps q=>?_⟩
  · apply Classical.byContradiction
    intro hx
    have:=I.base.free p ob q n hx
    rw [hu] at this;cases this
  · have:=I.base.tups p xs q
    rw [hu] at this;exact h1 xs (Option.some.inj this)
  · have:=I.base.d9 p o w q
    rw [hu] at this;exact h2 o w (Option.some.inj this)
  · obtain ⟨more,this⟩:=I.base.jO p ps q
    rw [hu] at this;exact h3 _ (Option.some.inj this)
end
section
variable {X:Cx} {pins:List (Addr×Obj)} {σ:St} {H:Hp} {s:Shared}
end
section
variable {X:Cx}
end
section
variable {X:Cx} {pins:List (Addr×Obj)} {σ:St} {H:Hp} {s:Shared}
end
section
variable {X:Cx} {pins:List (Addr×Obj)} {σ:St} {H:Hp} {s:Shared}
end
end L2
namespace L2
open PySem PySem.Spec PyProof.Rows PySem.W
structure Tt (H H':Hp):Prop where
  tups:∀ a xs,H a=some (.tup xs)→H' a=some (.tup xs)
  an9:∀ a o xs,H a=some (.mZ o (.tup xs))→H' a=some (.mZ o (.tup xs))
  aAZ:∀ a o φ,H a=some (.mZ o (.ext φ))→H' a=some (.mZ o (.ext φ))
theorem Tt.sqT {K:Fg} {H H':Hp} (t:Tt H H') {a:Addr} {xs:List V} (h:rD K H a xs):rD K H' a xs:=by
  rcases h with (h | ⟨o,h⟩) | h
  · exact .inl (.inl (t.tups _ _ h))
  · exact .inl (.inr ⟨o,t.an9 _ _ _ h⟩)
  · exact .inr h
theorem a69.tZ {H H':Hp} (t:Tt H H') {a:Addr} {xs:List V} (h:a69 H a xs):a69 H' a xs:=trivial
mutual
theorem RD.tZ {K:Fg} {H H':Hp} (t:Tt H H'):∀ {d:D} {v:V},RD K H d v→RD K H' d v
  | _,_,.non => .non
  | _,_,.bl b => .bl b
  | _,_,.int i => .int i
  | _,_,.str x => .str x
  | _,_,.ty n => .ty n
  | _,_,.ref a => .ref a
  | _,_,.tup h r e => .tup (t.sqT h) (bM.tZ t r) (e.tZ t)
theorem bM.tZ {K:Fg} {H H':Hp} (t:Tt H H'):∀ {ds:List D} {vs:List V},bM K H ds vs→bM K H' ds vs
  | _,_,.nil => .nil
  | _,_,.cons h r => .cons (RD.tZ t h) (bM.tZ t r)
end
theorem SR.tZ {K:Fg} {H H':Hp} (t:Tt H H'):∀ {ρ:aN} {σ:St},SR K H ρ σ→SR K H' ρ σ
  | _,_,.nil => .nil
  | _,_,.none r => .none (SR.tZ t r)
  | _,_,.some h r => .some (h.tZ t) (SR.tZ t r)
section
variable {X:Cx} {pins:List (Addr×Obj)} {σ:St} {H:Hp} {s:Shared}
end
section
variable {X:Cx}
end
section
variable {X:Cx}
end
end L2
namespace L2
open PySem PySem.Spec PyProof.Rows PySem.W
section
variable {X:Cx}
end
end L2
namespace L2
open PySem PySem.Spec PyProof.Rows
section
variable {X:Cx} {es:List Expr} {kt:Nat} {pt:Pos}
theorem kW:∀ (ns ms:List Int),jE (ns.map D.int) (ms.map D.int)=decide (ns=ms)
  | [],[]=>rfl
  | [],_ :: _=>rfl
  | _ :: _,[]=>rfl
  | n :: ns,m :: ms=>by
    show (eqP (.int n) (.int m)&&jE (ns.map D.int) (ms.map D.int))=_
    rw [kW ns ms]
    have:eqP (.int n) (.int m)=decide (n=m):=by rw [eqP];exact Bool.eq_iff_iff.mpr (by simp)
    rw [this]
    simp [Bool.decide_and]
theorem kY (n:Nat) (ns:List Int):aM (n+1) (.tup (ns.map D.int))=true:=by
  simp only [aM,List.all_eq_true,List.mem_map]
  rintro x ⟨i,_,rfl⟩
  cases n <;> rfl
end
end L2
namespace L2
open PySem PySem.Spec PyProof.Rows
section
variable {X:Cx}
open Classical in
end
end L2
namespace L2
open PySem PySem.Spec PyProof.Rows PySem.W
section
variable {X:Cx}
def zF:RM3:=fun x xs G R=>match x,xs with
  | .str j,[]=>Builtin.Str.tooLong (Txt.upper j).length=false∧R (.str (Txt.upper j)) G
  | _,_=>False
theorem m_upper:vU X "str.upper" zF:=fun pins s σ H x xs vx vs u us G R Q I rx rs ru rv g q k=>by
  cases rx with
  | str j =>
    cases rs with
    | cons _ _=>exact False.elim q
    | nil =>
      obtain ⟨t,rfl⟩:=ru
      cases rv
      exact SC.upper q.1 ⟨.str _,H,I.tok _,⟨_,rfl⟩,k _ H _ G (.refl H) (.str _) g q.2⟩
  | _=>cases rs <;> exact False.elim q
def oH:RM3:=fun x xs G R=>match x,xs with
  | .str j,[.str y]=>R (.bl (Txt.startswith j y)) G
  | _,_=>False
theorem a6X:vU X "str.startswith" oH:=fun pins s σ H x xs vx vs u us G R Q I rx rs ru rv g q k=>by
  unfold oH at q
  split at q
  · rename_i j y
    cases rx
    cases rs with
    | cons r1 rr =>
    cases rr
    cases r1
    obtain ⟨t,rfl⟩:=ru
    obtain ⟨u2,rfl,ru2⟩:=vals1 rv
    obtain ⟨t2,rfl⟩:=ru2
    exact SC.startswith ⟨.bl _,H,I,rfl,k _ H _ G (.refl H) (.bl _) g q⟩
  · exact q.elim
theorem countIn_strs (k:Str):∀ (ys:List Str),countIn (.str k) (ys.map PyData.str)=((ys.countP (· == k):Nat):Int)
  | []=>rfl
  | n :: r=>by
    rw [List.countP_cons,List.map_cons,Spec.countIn,countIn_strs k r]
    simp only [Spec.same]
    rcases Bool.eq_false_or_eq_true (n == k) with hb | hb <;> simp only [hb,Bool.false_eq_true,if_true,if_false] <;> omega
def tL:RM3:=fun x xs G R=>match x,xs with
  | .ref q,[.str k]=>(match bH G q with
    | some ds=>(match nC ds with
      | some ys=>R (.int ((ys.countP (· == k):Nat):Int)) G
      | none=>False)
    | none=>False)
  | _,_=>False
theorem a9W:vU X "list.count" tL:=fun pins s σ H x xs vx vs u us G R Q I rx rs ru rv g q k=>by
  unfold tL at q
  split at q
  · rename_i a y
    split at q
    · rename_i ds e1
      split at q
      · rename_i ys e2
        cases rx
        obtain rfl:u=Value.ref a:=ru
        cases rs with
        | cons r1 rr =>
        cases rr
        cases r1
        obtain ⟨u2,rfl,ru2⟩:=vals1 rv
        obtain ⟨t2,rfl⟩:=ru2
        obtain ⟨ws,hq,r1⟩:=cA g e1
        obtain ⟨its,rv',⟨o,n,p1,p2,p3,p4⟩,hz⟩:=I.list hq
        refine count_list_strs (vs:=its) ⟨o,p1,p2,n,p4⟩ (vW r1 rv' e2) ?_
        rw [countIn_strs]
        exact ⟨.int _,H,I.tok _,⟨_,rfl⟩,k _ H _ G (.refl H) (.int _) g q⟩
      · exact q.elim
    · exact q.elim
  · exact q.elim
theorem a3G {K:Fg} {H:Hp}:∀ {ds:List D} {xs:List V} (j:Nat),bM K H ds xs→bM K H (ds.eraseIdx j) (xs.eraseIdx j)
  | _,_,_,.nil => .nil
  | _,_,0,.cons _ r=>r
  | _,_,j+1,.cons h r => .cons h (a3G j r)
theorem a08:∀ {xs:List V} {us:List Value} (j:Nat),Vals xs us→Vals (xs.eraseIdx j) (us.eraseIdx j)
  | _,_,_,.nil => .nil
  | _,_,0,.cons _ r=>r
  | _,_,j+1,.cons h r => .cons h (a08 j r)
def xG:RM3:=fun x xs G R=>match xs with
  | [.int i]=>a9S x G fun p ds=>∃ (j:Nat) (d:D),i=(j:Int)∧ds[j]?=some d∧R d (aL G p (.lst (ds.eraseIdx j)))
  | _=>False
theorem aeF:vU X "list.pop" xG:=fun pins s σ H x xs vx vs u us G R Q I rx rs ru rv g q k=>by
  have big:sizeLine < 2 ^ 62:=by decide
  unfold xG at q
  split at q
  · rename_i i
    obtain ⟨p,ds,ys,rfl,rfl,e,e1,r,j,d,ei,hj,q⟩:=ae7 rx g q
    cases rs with
    | cons r1 rr =>
    cases rr
    cases r1
    obtain rfl:u=Value.ref p:=ru
    obtain ⟨u2,rfl,ru2⟩:=vals1 rv
    obtain ⟨t2,rfl⟩:=ru2
    obtain ⟨hz,its,n,rvs,ho⟩:=(show dO X.prog X.w H s.heap p (.lst ys) from I.hok p _ e1)
    have hl:ds.length=ys.length:=r.length
    have hl2:ys.length=its.length:=rvs.length
    have jl:j < ds.length:=(List.getElem?_eq_some_iff.mp hj).1
    obtain ⟨v,ev,rd⟩:=r.get hj
    obtain ⟨w',ew,rw'⟩:=rvs.get ev
    have hk:seqIndex? i its.toArray.size=some j:=by
      rw [ei]
      unfold seqIndex?
      rw [List.size_toArray]
      simp
      omega
    have hf:Builtin.List.listFitsIndex i=true:=by
      rw [ei]
      unfold Builtin.List.listFitsIndex
      simp
      omega
    have hy:its.toArray[j]?=some w':=by rw [List.getElem?_toArray];exact ew
    have hz':its.toArray.size≤sizeLine:=by rw [List.size_toArray,← hl2];exact hz
    have mt:=PySem.MeetsSeq.list_pop_at p its.toArray n i t2 j w' hf hk hy hz'
    refine call_meets PySem.F.slot_list_pop ⟨_,ho,rfl⟩ PySem.F.entry_list_pop (PySem.F.args_list_pop_2 _ _) mt ⟨ho,?_⟩
    have hs:=Heap.SameBut.update s.heap p (Obj.mapSeq fun xs=>xs.eraseIdxIfInBounds j)
    obtain ⟨n',ho'⟩:∃ n',(s.heap.update p (Obj.mapSeq fun xs=>xs.eraseIdxIfInBounds j)).get? p=some (seqObj "list" (its.eraseIdx j).toArray n'):=by
      have:=get?_update_seq ho fun xs=>xs.eraseIdxIfInBounds j
      rw [show (its.toArray.eraseIdxIfInBounds j)=(its.eraseIdx j).toArray by simp] at this
      exact ⟨_,this⟩
    have le:(ys.eraseIdx j).length≤sizeLine:=Nat.le_trans (List.length_eraseIdx_le ..) hz
    have tt:Ts H (upd H p (.lst (ys.eraseIdx j))) := .turn e1 (fun _ z=>nomatch z) (fun _ _ z=>nomatch z)
    exact ⟨v,_,I.write (t':=s.toks) (x:=p) (e:=p) (o := .lst (ys.eraseIdx j)) (by rw [e1];exact True.intro) (.inl rfl) (fun b o hb z=>(hs.2 b hb).trans z) ⟨_,ho'⟩ ⟨le,its.eraseIdx j,n',a08 j rvs,ho'⟩,rw',k _ _ _ _ tt (rd.mono tt) (g.turn (u := .lst (ds.eraseIdx j)) tt ⟨_,aJ,(a3G j r).mono tt⟩) q⟩
  · exact q.elim
end
theorem a9X {prog:Program} {w:World} {A:Around} {E:Value→Shared→Prop} {s:Shared} {items:Array Value} {x:Value} {e:Value→Bool} {j:Nat} (hj:j < items.size) (hit:e items[j]=true) (hno:∀ m (hm:m < items.size),m < j→e items[m]=false) (he:∀ y,y∈items→SeqAt.EqAt A s y x (e y))
    {Q:Option PySem.Fin×PUnit→Shared→Prop} (h:Q (some (.done (.ret (.int j s.toks))),⟨⟩) { s with toks:=s.toks+1 }):∀ (k i:Nat),i+k=items.size→i≤j →
    wpAny (model prog w) A (forIn (List.range' i k) ((none:Option PySem.Fin),PUnit.unit) fun (i:Nat) (_:Option PySem.Fin×PUnit)=>(match items[i]? with
      | some y=>do
        let b ← eqBool y x
        if b=true then do
          let r ← retInt (i:Int)
          pure (ForInStep.done (some r,PUnit.unit))
        else pure (ForInStep.yield (none,PUnit.unit))
      | _=>pure (ForInStep.yield (none,PUnit.unit)):Sem (ForInStep (Option PySem.Fin×PUnit)))) Q E s
  | 0,i,hk,hi=>absurd hj (by omega)
  | k+1,i,hk,hi=>by
    rw [List.range'_succ,List.forIn_cons]
    have hi2:i < items.size:=by omega
    rw [Array.getElem?_eq_getElem hi2]
    refine wpAny_bind (wpAny_bind (he _ (Array.getElem_mem hi2) prog w E _ ?_))
    by_cases c:i=j
    · subst c
      rw [if_pos hit]
      refine wpAny_bind (wpAny_bind (wpAny_mkInt (wpAny_pure ?_)))
      exact wpAny_pure (wpAny_pure h)
    · rw [if_neg (by rw [hno i hi2 (by omega)];decide)]
      exact wpAny_pure (a9X hj hit hno he h k (i+1) (by omega) (by omega))
theorem a1Y (l:Addr) (items:Array Value) (n:Nat) (dd:Option Addr) (sl:Array (Option Value)) (x:Value) (e:Value→Bool) (j:Nat) (hj:j < items.size) (hit:e items[j]=true) (hno:∀ m (hm:m < items.size),m < j→e items[m]=false) :
    Meets (Builtin.«tuple.index» ⟨[.ref l,x],[]⟩)
      (fun A R s=>s.heap.get? l=some { cls := .type "tuple",dict:=dd,data := .seq items n,slots:=sl }∧(∀ y,y∈items→SeqAt.EqAt A.in1 s y x (e y))∧R (.ok (.ret (.int j s.toks))) { s with toks:=s.toks+1 }) :=
  .of_wp fun prog w A R s h=>by
    obtain ⟨hl,he,h⟩:=h
    unfold Builtin.«tuple.index»
    refine wpAny_bind (wpAny_pure ?_)
    refine wpAny_bind (wpAny_tupleItemsOf hl rfl ?_)
    dsimp only
    refine wpAny_bind (wpAny_pure (wpAny_bind (wpAny_pure ?_)))
    rw [Std.Legacy.Range.forIn_eq_forIn_range']
    have es:List.range' [:min items.size items.size].start [:min items.size items.size].size [:min items.size items.size].step=List.range' 0 items.size:=by simp [Std.Legacy.Range.size]
    rw [es]
    refine wpAny_bind (a9X hj hit hno he ?_ items.size 0 (by omega) (Nat.zero_le _))
    exact wpAny_pure ⟨_,rfl,h⟩
section
variable {X:Cx}
def j5:RM3:=fun x xs G R=>match x,xs with
  | .tup ds,[.str k]=>(match nC ds with
    | some ys=>∃ j:Nat,ys[j]?=some k∧(∀ m,m < j→ys[m]?≠some k)∧R (.int j) G
    | none=>False)
  | _,_=>False
theorem aeG:vU X "tuple.index" j5:=fun pins s σ H x xs vx vs u us G R Q I rx rs ru rv g q k=>by
  unfold j5 at q
  split at q
  · rename_i ds y
    split at q
    · rename_i ys e2
      obtain ⟨j,h1,h2,q⟩:=q
      cases rx with
      | @tup a ws _ sq rr _ =>
      obtain rfl:u=Value.ref a:=ru
      cases rs with
      | cons r1 rr2 =>
      cases rr2
      cases r1
      obtain ⟨u2,rfl,ru2⟩:=vals1 rv
      obtain ⟨t2,rfl⟩:=ru2
      obtain ⟨its,vi,⟨o,p1,p2,n,p3⟩,_⟩:=I.tuple sq
      have hi:StrsAre its ys:=vW rr vi e2
      have len:its.length=ys.length:=hi.len_eq
      have jl:j < ys.length:=(List.getElem?_eq_some_iff.mp h1).1
      have hobj:s.heap.get? a=some { cls := .type "tuple",dict:=o.dict,data := .seq its.toArray n,slots:=o.slots }:=by rw [p1];cases o;simp_all
      have at1:∀ m (hm:m < its.toArray.size) ym,ys[m]?=some ym→isStrOf y its.toArray[m]=(ym == y):=fun m hm ym em=>by
        obtain ⟨t,et⟩:=hi.at em
        have z:its.toArray[m] = .str ym t:=by
          rw [List.getElem?_eq_getElem (by simpa using hm)] at et
          simpa using et
        rw [z]
        rfl
      refine call_meets PySem.F.slot_tuple_index ⟨_,hobj,rfl⟩ PySem.F.entry_tuple_index (PySem.F.args_tuple_index_2 _ _) (a1Y a its.toArray n o.dict o.slots (.str y t2) (isStrOf y) j (by simpa [len] using jl) ?_ ?_) ⟨hobj,fun z hz=>(eq_isStrOf y t2 hi z (by simpa using hz)).at _ _,⟨.int j,H,I.tok _,⟨_,rfl⟩,k _ H _ G (.refl H) (.int _) g q⟩⟩
      · rw [at1 j (by simpa [len] using jl) y h1]
        exact beq_self_eq_true y
      · intro m hm lt
        have ml:m < ys.length:=by omega
        rw [at1 m hm ys[m] (List.getElem?_eq_getElem ml)]
        exact beq_eq_false_iff_ne.mpr fun z=>h2 m lt (by rw [List.getElem?_eq_getElem ml,z])
    · exact q.elim
  · exact q.elim
end
end L2
namespace L2
open PySem PySem.Spec PyProof.Rows PySem.W
section
variable {X:Cx}
def oJ:RM3:=fun x xs G R=>match x,xs with
  | .str j,[.str y,.str z]=>j.length+(j.length+1) * z.length≤16777216∧R (.str (Txt.replace j y z)) G
  | _,_=>False
theorem ao1 {o:Expr} {to:cB} {y z:Str} {j1 j2:Nat} {p1 p2 apos cpos:Pos} (hn:X.need=true) (hyz:(y == z)=false) (ho:cI X o to)
    (hbase:attributeBase o "replace" X.env (eval o X.env)=eval o X.env:=by rfl) (hline:(apos.endLine == cpos.line)=true:=by rfl) :
    cI X (.Call (.Attribute o "replace" apos) [.Constant (.str y) j1 p1,.Constant (.str z) j2 p2] [] cpos) (tM3 "str" oJ to (aA (aV (.str y)) (aA (aV (.str z)) aC))):=by
  intro pins s σ H Q I h _tk
  obtain ⟨ρ,G,R,sr,g,q,kk⟩:=h
  refine wpAny_Call_method_late hbase rfl hline rfl (cV (ho pins s σ H (fun vx H1=>Ts H H1∧∃ x G1,RD X.K H1 x vx∧HR X.K H1 G1∧yU "str" G1 x∧oJ x [.str y,.str z] G1 R) I ⟨ρ,G,_,sr,g,q,fun v H1 x G1 t1 r1 g1 q1=>⟨t1,x,G1,r1,g1,q1⟩⟩) fun v s1 ⟨vx,H1,I1,r1,t1,x,G1,rx,g1,ty,q1⟩=>?_)
  obtain ⟨h1,h2⟩:=a4F I1 r1 (a4N g1 rx ty)
  refine ⟨"str", "str.replace",PySem.F.plainAttrs_str,PySem.F.slot_str_replace,PySem.F.type_str_replace,h1,h2,?_⟩
  have pos:0 < s1.toks:=(inferInstance:Tk X.need s1).pos hn
  cases rx with
  | str j =>
    obtain ⟨t,rfl⟩:=r1
    refine Calls.callWith_builtin rfl (Calls.evalArgs_plain ?_)
    refine Calls.spliced_cons (Calls.Constant_str (k:=j1) (pos:=p1) (Calls.spliced_cons (Calls.Constant_str (k:=j2) (pos:=p2) (Calls.spliced_nil ?_))))
    exact SC.replace (by show s1.toks≠0;omega) (by show s1.toks+1≠0;omega) (by show s1.toks≠s1.toks+1;omega) hyz q1.1 fun t' k=>⟨.str _,H1,(I1.tok _:Inv X pins σ H1 { s1 with toks:=k }),⟨_,rfl⟩,kk _ H1 _ G1 t1 (.str _) g1 q1.2⟩
  | _=>exact False.elim q1
def aiM (ds:List D) (te:cB):cB:=fun ρ G R=>te ρ G fun y G1=>j5 (.tup ds) [y] G1 R
theorem at5 {x:Str} {ds:List D} {u:Value} {v:V} {e:Expr} {te:cB} {p apos cpos:Pos} (hg:Gl X x) (hm:X.mg x=some u) (rv:RelV v u) (rd:∀ H,RD X.K H (.tup ds) v) (he:cI X e te) (hs:starEach [e] X.env=[(false,eval e X.env)]) (hline:(apos.endLine == cpos.line)=true) (hdb:(x == ("__debug__" : Str))=false):cI X (.Call (.Attribute (.Name x p) "index" apos) [e] [] cpos) (aiM ds te):=by
  intro pins s σ H Q I h _tk
  obtain ⟨ρ,G,R,sr,g,q,kk⟩:=h
  obtain ⟨a,o,rfl,hk,hc,hd⟩:∃ a o,v = .ref a∧X.K.lookup a=some o∧o.cls = .type "tuple" ∧ o.dict=none:=by
    cases rd (fun _=>none) with
    | @tup a xs _ sq r e0 =>
      rcases sq with (z | ⟨_,z⟩) | ⟨o,its,n,hk,hc,hd,_⟩
      · cases z
      · cases z
      · exact ⟨a,o,rfl,hk,hc,hd⟩
  obtain rfl:u=Value.ref a:=rv
  refine wpAny_Call_method_late rfl (by rw [hs];rfl) hline rfl (fU I hg hm ?_ hdb)
  refine ⟨"tuple", "tuple.index",PySem.F.plainAttrs_tuple,PySem.F.slot_tuple_index,PySem.F.type_tuple_index,⟨o,I.xV a o hk,hc⟩,fun b e=>by cases e;exact ⟨o,I.xV _ o hk,hd⟩,?_⟩
  have hA:=uQ (es:=[]) he a9H (by rw [hs];rfl) cpos pins s σ H (fun vs H2=>Ts H H2∧∃ xs G2,bM X.K H2 xs vs∧HR X.K H2 G2∧j5 (.tup ds) xs G2 R) I ⟨ρ,G,fun xs G2=>j5 (.tup ds) xs G2 R,sr,g,q,fun vs H2 xs G2 t2 r2 g2 q2=>⟨t2,xs,G2,r2,g2,q2⟩⟩
  rw [hs] at hA ⊢
  refine Calls.callWith_builtin rfl (Calls.evalArgs_plain ?_)
  exact cV hA fun us s2 ⟨vs,H2,I2,r2,t2,xs,G2,rs,g2,q2⟩=>aeG pins s2 σ H2 (.tup ds) xs (.ref a) vs (.ref a) us G2 R Q I2 (rd H2) rs rfl r2 g2 q2 fun v H' d G' t3=>kk v H' d G' (t2.trans t3)
def kvS:List Str→List D→List (DK×D)→List (DK×D)
  | k :: ks,d :: ds,kvs=>kvS ks ds (abR kvs (.inl (.inr k)) d)
  | _,_,kvs=>kvs
def VS:List Str→List V→List (Value×Value)→Prop
  | [],[],[]=>True
  | k :: ks,w :: ws,u :: us=>(∃ t,u.1 = .str k t)∧RelV w u.2∧VS ks ws us
  | _,_,_=>False
def PDs (X:Cx) (pos:Pos) (keys:List (Option Expr)) (values:List Expr) (ks:List Str) (t:n6):Prop :=
  ∀ (pins:List (Addr×Obj)) (s:Shared) (σ:St) (H:Hp) (Q:List V→Hp→Prop),Inv X pins σ H s→upA X.K t σ H Q→[Tk X.need s] →
    wpAny (model X.prog X.w) X.A (evalPairs (pairTrees keys values X.env pos)) (fun us s'=>∃ ws H',Inv X pins σ H' s'∧VS ks ws us∧Q ws H') X.xe s
theorem aiN {pos:Pos}:PDs X pos [] [] [] aC:=fun pins s σ H Q I h=>by
  obtain ⟨ρ,G,R,sr,g,q,kk⟩:=h
  exact pairTrees_nil_walk ⟨[],H,I,trivial,kk [] H [] G (.refl H) .nil g q⟩
theorem aeI {pos p1:Pos} {j1:Nat} {k:Str} {v:Expr} {keys:List (Option Expr)} {values:List Expr} {ks:List Str} {tv:cB} {t:n6} (hv:cI X v tv) (hr:PDs X pos keys values ks t) :
    PDs X pos (some (.Constant (.str k) j1 p1) :: keys) (v :: values) (k :: ks) (aA tv t):=fun pins s σ H Q I h=>by
  obtain ⟨ρ,G,R,sr,g,q,kk⟩:=h
  refine pairTrees_cons_walk (Calls.Constant_str (k:=j1) (pos:=p1) ?_)
  refine cV (hv pins _ σ H (fun vv H1=>Ts H H1∧∃ d G1,RD X.K H1 d vv∧HR X.K H1 G1∧t ρ G1 fun ds G2=>R (d :: ds) G2) (I.tok _) ⟨ρ,G,_,sr,g,q,fun vv H1 d G1 t1 r1 g1 q1=>⟨t1,d,G1,r1,g1,q1⟩⟩) fun uv s2 ⟨vv,H1,I1,rv,t1,d,G1,rd,g1,q1⟩=>?_
  exact cV (hr pins s2 σ H1 (fun ws H2=>Ts H1 H2∧∃ ds G2,bM X.K H2 ds ws∧HR X.K H2 G2∧R (d :: ds) G2) I1 ⟨ρ,G1,_,sr.mono t1,g1,q1,fun ws H2 ds G2 t2 r2 g2 q2=>⟨t2,ds,G2,r2,g2,q2⟩⟩) fun us s3 ⟨ws,H2,I2,vs,t2,ds,G2,rds,g2,q2⟩=>⟨vv :: ws,H2,I2,⟨⟨_,rfl⟩,rv,vs⟩,kk (vv :: ws) H2 (d :: ds) G2 (t1.trans t2) (.cons (rd.mono t2) rds) g2 q2⟩
theorem aeJ {G:Gp} {p:Addr} {o:GO} (h:G p=some o):aL G p o=G:=funext fun a=>by
  by_cases c:a=p
  · subst c;rw [aF,h]
  · rw [cG c]
theorem a09 {G:Gp} {p:Addr} {o o':GO}:aL (aL G p o) p o'=aL G p o':=funext fun a=>by
  by_cases c:a=p
  · subst c;rw [aF,aF]
  · rw [cG c,cG c,cG c]
theorem a9Y {A:Around} {E:Value→Shared→Prop} {p:Addr} {pins:List (Addr×Obj)} {σ:St} {Q:Shared→Prop} (hu:A.units < cLine):∀ (ks:List Str) (ds:List D) (ws:List V) (us:List (Value×Value)) (kvs:List (DK×D)) (H:Hp) (G:Gp) (s:Shared),VS ks ws us→bM X.K H ds ws→Inv X pins σ H s→HR X.K H G→G p=some (.tV false kvs)→kvs.length+ks.length < sizeLine →
    (∀ H' s',Inv X pins σ H' s'→Ts H H'→HR X.K H' (aL G p (.tV false (kvS ks ds kvs)))→Q s')→wpAny (model X.prog X.w) A (storeAll p us) (fun _ s'=>Q s') E s
  | [],ds,ws,us,kvs,H,G,s,v,r,I,g,hG,hl,k=>by
    cases ws with
    | cons _ _=>exact v.elim
    | nil =>
    cases us with
    | cons _ _=>exact v.elim
    | nil =>
      unfold storeAll
      rw [List.forIn_nil]
      refine wpAny_pure (k H s I (.refl H) ?_)
      unfold kvS
      rw [aeJ hG]
      exact g
  | key :: ks,ds,ws,us,kvs,H,G,s,v,r,I,g,hG,hl,k=>by
    cases ws with
    | nil=>exact v.elim
    | cons w ws =>
    cases us with
    | nil=>exact v.elim
    | cons u us =>
      obtain ⟨⟨t,e⟩,rv,v⟩:=v
      obtain ⟨u1,u2⟩:=u
      obtain rfl:u1 = .str key t:=e
      cases r with
      | @cons d _ ds _ rd r =>
      have q:yF (.ref p) (.str key) G fun a t' kvs' k'=>kvs'=kvs∧k' = .inl (.inr key):=by
        unfold yF
        dsimp only
        rw [hG]
        exact ⟨rfl,rfl,rfl⟩
      obtain ⟨a,kvs',kd,ea,_,e1,_,⟨rfl,rfl⟩,dd⟩:=a6U (.ref p) (.str key) g q
      cases ea
      have hl2:kvs'.length+(ks.length+1) < sizeLine:=hl
      obtain ⟨H4,pp,tt,g4⟩:=dd.put g rd (by omega)
      have e0:storeAll p ((Value.str key t,u2) :: us)=(do dictSet p (Value.str key t) u2;storeAll p us):=by
        unfold storeAll
        rw [List.forIn_cons]
        simp only [bind_assoc,pure_bind]
      rw [e0]
      refine wpAny_bind (abU hu I pp ⟨t,rfl⟩ rv fun s3 I3=>?_)
      have lp:(abR kvs' (.inl (.inr key)) d).length≤kvs'.length+1:=by
        unfold abR
        split
        · rw [List.length_map];omega
        · rw [List.length_append];exact Nat.le_refl _
      refine a9Y hu ks ds ws us _ H4 _ s3 v (r.mono tt) I3 g4 aF (by omega) fun H' s' I' t' g'=>k H' s' I' (tt.trans t') ?_
      rw [a09] at g'
      exact g'
def a4W (ks:List Str) (t:n6):cB:=fun ρ G R=>∀ p,G p=none→t ρ (aL G p (.tV false [])) fun ds G2=>G2 p=some (.tV false [])∧R (.ref p) (aL G2 p (.tV false (kvS ks ds [])))
theorem aiO {keys:List (Option Expr)} {values:List Expr} {ks:List Str} {t:n6} {pos:Pos} (hu:X.A.units+64 < cLine) (hall:keys.all (·.isSome)=true) (hl:keys.length=values.length) (h0:keys≠[]) (h15:keys.length≤15) (hks:ks.length≤15) (hd:PDs X pos keys values ks t):cI X (.Dict keys values pos) (a4W ks t):=by
  intro pins s σ H Q I h _tk
  obtain ⟨ρ,G,R,sr,g,q,kk⟩:=h
  have big:15 < sizeLine:=by decide
  refine wpAny_Dict_any hall hl h0 h15 ?_
  have fr:H s.heap.objs.size=none:=I.hok.fresh (Nat.le_refl _)
  have sn:Same H (upd H s.heap.objs.size (.dK [])):=bB fr
  have J:=I.laid (a:=s.heap.objs.size) (o := .dK []) (t':=s.toks) (fun _ _ q=>Heap.get?_push_of_some _ q) (Nat.le_refl _) (ad0 s.heap I.big)
  have g0:HR X.K (upd H s.heap.objs.size (.dK [])) (aL G s.heap.objs.size (.tV false [])):=g.put (u := .tV false []) fr (.inl ⟨rfl,[],aJ,.nil⟩)
  have t0:Ts H (upd H s.heap.objs.size (.dK [])) := .same sn
  refine cV (hd pins _ σ _ (fun ws H1=>Ts (upd H s.heap.objs.size (.dK [])) H1∧∃ ds G1,bM X.K H1 ds ws∧HR X.K H1 G1∧G1 s.heap.objs.size=some (.tV false [])∧R (.ref s.heap.objs.size) (aL G1 s.heap.objs.size (.tV false (kvS ks ds [])))) J ⟨ρ,_,_,sr.mono t0,g0,q _ (lQ g fr (rK J)),fun ws H1 ds G1 t1 r1 g1 q1=>⟨t1,ds,G1,r1,g1,q1⟩⟩) fun us s1 ⟨ws,H1,I1,v,t1,ds,G1,r1,g1,e1,q1⟩=>?_
  exact a9Y (by omega) ks ds ws us [] H1 G1 s1 v r1 I1 g1 e1 (by show 0+ks.length < sizeLine;omega) fun H' s' I' t' g'=>⟨.ref _,H',I',rfl,kk _ H' _ _ ((t0.trans t1).trans t') (.ref _) g' q1⟩
end
end L2
namespace L2
open PySem PySem.Spec PyProof.Rows PySem.W
abbrev Cx.ask (X:Cx):Cx:={ X with need:=true }
theorem Inv.ask {X:Cx} {pins:List (Addr×Obj)} {σ:St} {H:Hp} {s:Shared} (I:Inv X pins σ H s):Inv X.ask pins σ H s :=
  let o:=I.ok
  ⟨⟨o.mod,o.kind,o.glob,o.blt,o.above,o.inj,o.has,o.cab,o.hd,o.frames,o.stk,o.exf,o.bs,o.bsz,o.yO,o.zL,o.lK,o.frf⟩,I.os,I.bare,I.base,I.loc,I.cell,I.free,I.fG,I.pin,I.hok,I.len,I.hnd,I.tup⟩
theorem Inv.akY {X:Cx} {pins:List (Addr×Obj)} {σ:St} {H:Hp} {s:Shared} (I:Inv X.ask pins σ H s):Inv X pins σ H s :=
  let o:=I.ok
  ⟨⟨o.mod,o.kind,o.glob,o.blt,o.above,o.inj,o.has,o.cab,o.hd,o.frames,o.stk,o.exf,o.bs,o.bsz,o.yO,o.zL,o.lK,o.frf⟩,I.os,I.bare,I.base,I.loc,I.cell,I.free,I.fG,I.pin,I.hok,I.len,I.hnd,I.tup⟩
theorem Cat.ask {X:Cx} {EX:aN→aX} (h:Cat X EX):Cat X.ask EX:=⟨fun pins σ H s ρ e s' I sr c=>h.a6B pins σ H s ρ e s' I.akY sr c⟩
theorem Thr.ask {X:Cx} {EX:aN→aX} (h:Thr X EX):Thr X.ask EX:=⟨fun pins σ H s ρ C e us h' I sr m c=>h.made pins σ H s ρ C e us h' I.akY sr m c⟩
structure rT (qt:Bool) (P:Program) (w:World) (K:PySem.W.Frag) (mg:Str→Option Value) (base:Heap) (CX:zP) (k:Nat) (f:Addr) (fd:FuncData) (ps:List Str) (sp:Sp):Prop where
  len:∀ vs H Q E,sp vs H Q E→vs.length=ps.length
  run:∀ (A:Around) (outer:List Env) (s:Shared) (H:Hp) (args:Args) (us:List Value) (vs:List V) (Q:VK) (E:XK),cH qt k A→uJ P w K mg base A outer s H→BindsTo s fd args (ps.zip us)→Vals vs us→sp vs H Q E→0 < s.toks →
    codeAny (model P w) A (.call (.ref f) args) (CR CX outer P w H s Q E) s
theorem rT.mono {qt:Bool} {P:Program} {w:World} {K:PySem.W.Frag} {mg:Str→Option Value} {base:Heap} {CX:zP} {j k:Nat} {f:Addr} {fd:FuncData} {ps:List Str} {sp:Sp} (F:rT qt P w K mg base CX j f fd ps sp) (h:j≤k):rT qt P w K mg base CX k f fd ps sp :=
  ⟨F.len,fun A outer s H args us vs Q E hr=>F.run A outer s H args us vs Q E (hr.mono h)⟩
theorem ao2 {qt:Bool} {CX:zP} {P:Program} {w:World} {K:PySem.W.Frag} {mg:Str→Option Value} {base:Heap} {k:Nat} {f:Addr} {name qual:Str} {params:Arguments} {body:List Stmt} {scope:Scope} {dV kV doc pm cdv ct oc:Value} {an od:Option Addr} {osl:Array (Option Value)} {N ps:List Str} {sp:Sp}
    (lk:K.lookup f=some ⟨oc,od,.func (PySem.W.fnOf name qual params body scope dV kV doc pm an cdv ct),osl⟩) (hcd:PySem.W.codeIn K cdv qual=true) (S:bF N ps scope) (len:∀ vs H Q E,sp vs H Q E→vs.length=ps.length)
    (hbody:∀ (A:Around) (outer:List Env) (s:Shared) (H:Hp) (vs:List V) (Q:VK) (E:XK),cH qt k (A.deeper (envOfC qual scope s.heap.objs.size f cdv))→sp vs H Q E →
      ∃ t,z8 (fV qt CX P w K mg base N qual scope f cdv A outer s H E).ask body t∧t { nx:=fun _ H'=>Q .non H',rt:=Q } (start N vs) H) :
    rT qt P w K mg base CX (k+1) f (PySem.W.fnOf name qual params body scope dV kV doc pm an cdv ct) ps sp:=by
  refine ⟨len,fun A outer s H args us vs Q E hr e0 hb r hsp tp=>?_⟩
  have hl:=len _ _ _ _ hsp
  have KX:K.In s.heap:=e0.mod.kin.keeps fun b o e=>(e0.bs b o e).1
  have lim:s.heap.NoLimit:=e0.mod.nolimit.keeps fun b o e=>(e0.bs b o e).1
  have hkind:∀ y∈ps.zip us,scope.names.lookup y.1=some .local∨(scope.names.lookup y.1=some .cell∧((cellsFrom (s.heap.objs.size+1) scope.names []).lookup y.1).isSome=true):=fun ⟨n,v⟩ hy=>by
    rcases S.par n (List.of_mem_zip hy).1 with q | q
    · exact .inl q
    · exact .inr ⟨q,PySem.W.cellsFrom_some _ _ _ (.inl q)⟩
  refine codeAny_call_function hr.depth (KX _ _ lk) rfl S.co S.gen rfl (PySem.W.codeRec_of KX hcd) (hb _ _ _ _ ?_)
  refine cV (wpAny_newFunctionEnv_cells (Q:=fun env s1=>env=_∧InCallC s env.locals _ env.cells _ s1) S.kind hkind fun env he s1 x=>⟨he,x⟩) fun env s1 ⟨he,x⟩=>?_
  subst he
  refine ⟨lim.keeps x.toInCall.keep,codeAny_func ?_⟩
  obtain ⟨t,ht,hq⟩:=hbody A outer s H vs Q E (hr.deeper _) hsp
  have I:Inv (fV qt CX P w K mg base N qual scope f cdv A outer s H E) [] (start N vs) H s1:=wR S hr.hd e0 hl r x
  refine wpAny_mono (@ht [] s1 (start N vs) H _ I.ask hq ⟨fun _=>(inferInstance:TkI s s1).imp tp⟩) (fun fl s' hs=>?_) fun e s' hs=>hs
  have fin:∀ {σ':St} {H':Hp} {v:V} {u:Value},Inv (fV qt CX P w K mg base N qual scope f cdv A outer s H E).ask [] σ' H' s'→RelV v u→Q v H'→CE outer P w H s Q u s':=fun {σ' H' v u} J rv q=>⟨v,H',J.os,J.bare,J.base,J.hok,rv,q⟩
  cases fl with
  | ret u =>
    obtain ⟨v,σ',H',J,rv,q⟩:=hs
    exact fin J rv q
  | next =>
    obtain ⟨σ',H',J,q⟩:=hs
    exact fin (v:=V.non) (u:=Value.none) J rfl q
  | brk =>
    obtain ⟨_,_,_,q⟩:=hs
    exact False.elim q
  | cont =>
    obtain ⟨_,_,_,q⟩:=hs
    exact False.elim q
theorem aiP {qt:Bool} {P:Program} {w:World} {K:Fg} {mg:Str→Option Value} {base:Heap} {x qual:Str} {st:Stmt} {f:Addr} {fd:FuncData} {N ps:List Str} {k:Nat} {tb:aX→bK} (F:vJ K x qual st f fd) (S:bF N ps (aH st))
    (hbody:∀ (cdv:Value) (A:Around) (outer:List Env) (s:Shared) (H:Hp) (E:XK) (EX:aX),cH qt k (A.deeper (envOfC qual (aH st) s.heap.objs.size f cdv))→UpX K EX E →
      uN (vO qt P w K mg base N qual (aH st) f cdv A outer s H E).ask (bN st) (tb EX)):rT qt P w K mg base (kJ P w) (k+1) f fd ps (cT K (adI N.length ps.length tb)):=by
  obtain ⟨oc,od,dV,kV,doc,pm,an,cdv,ct,osl,rfl,lk,hcd⟩:=F.ex
  refine ao2 lk hcd S (fun vs H Q E h=>?_) fun A outer s H vs Q E hr hsp=>?_
  · obtain ⟨ds,G,R,EX,r,g,⟨hl,q⟩,_⟩:=h
    rw [← r.length,hl]
  · obtain ⟨ds,G,R,EX,r,g,⟨hl,q⟩,kk,hE⟩:=hsp
    refine ⟨_,hbody cdv A outer s H E EX hr hE,lO N.length ds,G,_,?_,g,q,⟨fun ρ G' σ' H' s1 g1 q1=>kk .non H' .non G' .non g1 q1,fun d G' v H' r1 g1 q1=>kk v H' d G' r1 g1 q1,fun _ _ _ _ _ _ z=>z.elim,fun _ _ _ _ _ _ z=>z.elim⟩⟩
    unfold lO start
    rw [r.length]
    exact SR.entry r
section
variable {X:Cx} {k:Nat} {f:Addr} {fd:FuncData} {ps:List Str} {sp:rA} {EX:aN→aX} {x:Str} {p pos:Pos} {e:Expr} {es:List Expr} {t:n6}
def PAp (X:Cx) (es:List Expr) (t:n6):Prop :=
  ∀ (pos:Pos) (pins:List (Addr×Obj)) (s:Shared) (σ:St) (H:Hp) (Q:List V→Hp→Prop),Inv X pins σ H s→upA X.K t σ H Q→[Tk X.need s]→wpAny (model X.prog X.w) X.A (spliced (backTo pos (starEach es X.env))) (fun us s'=>AP X pins σ Q us s'∧0 < s'.toks) X.xe s
def PEp (X:Cx) (e:Expr) (t:cB):Prop :=
  ∀ (pins:List (Addr×Obj)) (s:Shared) (σ:St) (H:Hp) (Q:VK),Inv X pins σ H s→upE X.K t σ H Q→[Tk X.need s]→wpAny (model X.prog X.w) X.A (eval e X.env) (fun u s'=>EP X pins σ Q u s'∧0 < s'.toks) X.xe s
theorem aiQ {te:cB} (he:PEp X e te) (hs:starEach [e] X.env=[(false,eval e X.env)]:=by rfl):PAp X [e] (aA te aC):=by
  intro pos pins s σ H Q I h _tk
  rw [hs]
  show wpAny _ _ (spliced ((false,eval e X.env) :: [])) _ _ s
  obtain ⟨ρ,G,R,sr,g,q,kk⟩:=h
  refine Calls.spliced_cons (cV (he pins s σ H (fun v H1=>Ts H H1∧∃ d G1,RD X.K H1 d v∧HR X.K H1 G1∧R [d] G1) I ⟨ρ,G,_,sr,g,q,fun v H1 d G1 t1 r1 g1 q1=>⟨t1,d,G1,r1,g1,q1⟩⟩) fun u s1 ⟨⟨v,H1,I1,rv,t1,d,G1,r1,g1,q1⟩,tp⟩=>Calls.spliced_nil ⟨⟨[v],H1,I1,.cons rv .nil,kk [v] H1 [d] G1 t1 (.cons r1 .nil) g1 q1⟩,tp⟩)
theorem aeK {te:cB} (ha:cI X e te) (hr:PAp X es t) (hs:starEach (e :: es) X.env=(false,eval e X.env) :: starEach es X.env:=by rfl):PAp X (e :: es) (aA te t):=by
  intro pos pins s σ H Q I h _tk
  rw [hs]
  show wpAny _ _ (spliced ((false,eval e X.env) :: backTo pos (starEach es X.env))) _ _ s
  obtain ⟨ρ,G,R,sr,g,q,kk⟩:=h
  refine Calls.spliced_cons (cV (ha pins s σ H (fun v H1=>Ts H H1∧∃ d G1,RD X.K H1 d v∧HR X.K H1 G1∧t ρ G1 fun ds G2=>R (d :: ds) G2) I ⟨ρ,G,_,sr,g,q,fun v H1 d G1 t1 r1 g1 q1=>⟨t1,d,G1,r1,g1,q1⟩⟩) fun u s1 ⟨v,H1,I1,rv,t1,d,G1,r1,g1,q1⟩=>?_)
  exact cV (hr pos pins s1 σ H1 (fun vs H2=>Ts H1 H2∧∃ ds G2,bM X.K H2 ds vs∧HR X.K H2 G2∧R (d :: ds) G2) I1 ⟨ρ,G1,_,sr.mono t1,g1,q1,fun vs H2 ds G2 t2 r2 g2 q2=>⟨t2,ds,G2,r2,g2,q2⟩⟩) fun us s2 ⟨⟨vs,H2,I2,rs,t2,ds,G2,r2,g2,q2⟩,tp⟩=>⟨⟨v :: vs,H2,I2,.cons rv rs,kk _ H2 _ G2 (t1.trans t2) (.cons (r1.mono t2) r2) g2 q2⟩,tp⟩
theorem aiR {o:Expr} {to:cB} {c name:Str} {j1:Nat} {p1 apos cpos:Pos} {T id:String} {r3:RM3} (pa:PlainAttrs T) (slot:Slot T name id) (hty:typeOf (.builtin id)=pure (.type "method_descriptor")) (hm:vU X id r3) (ho:cI X o to)
    (hbase:attributeBase o name X.env (eval o X.env)=eval o X.env:=by rfl) (hline:(apos.endLine == cpos.line)=true:=by rfl) :
    PEp X (.Call (.Attribute o name apos) [.Constant (.str c) j1 p1] [] cpos) (tM3 T r3 to (aA (aV (.str c)) aC)):=by
  intro pins s σ H Q I h _tk
  obtain ⟨ρ,G,R,sr,g,q,kk⟩:=h
  refine wpAny_Call_method_late hbase rfl hline rfl (cV (ho pins s σ H (fun vx H1=>Ts H H1∧∃ x G1,RD X.K H1 x vx∧HR X.K H1 G1∧yU T G1 x∧r3 x [.str c] G1 R) I ⟨ρ,G,_,sr,g,q,fun v H1 x G1 t1 r1 g1 q1=>⟨t1,x,G1,r1,g1,q1⟩⟩) fun v s1 ⟨vx,H1,I1,r1,t1,x,G1,rx,g1,ty,q1⟩=>?_)
  obtain ⟨h1,h2⟩:=a4F I1 r1 (a4N g1 rx ty)
  refine ⟨T,id,pa,slot,hty,h1,h2,?_⟩
  refine Calls.callWith_builtin rfl (Calls.evalArgs_plain ?_)
  refine Calls.spliced_cons (Calls.Constant_str (k:=j1) (pos:=p1) (Calls.spliced_nil ?_))
  refine cV (hm pins { s1 with toks:=s1.toks+1 } σ H1 x [.str c] vx [.str c] v [.str c s1.toks] G1 R Q (I1.tok _) rx (.cons (.str c) .nil) r1 (.cons ⟨_,rfl⟩ .nil) g1 q1 fun v H' d G' t3=>kk v H' d G' (t1.trans t3)) fun u s3 z=>?_
  intro i
  exact ⟨z,i.imp (Nat.succ_pos _)⟩
theorem aiS (F:rT qt X.prog X.w X.K X.mg X.base (kJ X.prog X.w) k f fd ps (cT X.K sp)) (hr:cH qt k X.A) (hg:Gl X x) (hm:X.mg x=some (.ref f)) (hk:PySem.W.keepIn X.K (.ref f)=true) (hb:Binds X.K fd ps []) (hx:Cat X EX)
    (ha:PAp X (e :: es) t) (hdb:(x == ("__debug__" : Str))=false:=by decide) (he:starEach (e :: es) X.env=(false,eval e X.env) :: starEach es X.env:=by rfl) (hpl:(backTo pos (starEach es X.env)).any (·.1)=false:=by rfl) :
    cI X (.Call (.Name x p) (e :: es) [] pos) (bY sp EX t):=by
  intro pins s σ H Q I h _tk
  obtain ⟨ρ,G,R,sr,g,q,kk⟩:=h
  refine wpAny_Call_Name_kw (fU I hg hm ?_ hdb)
  refine PySem.W.callWith_K (h₀:=X.base) I.ok.mod.kin hk (cV (ha pos pins s σ H (fun vs H1=>Ts H H1∧∃ ds G1,bM X.K H1 ds vs∧HR X.K H1 G1∧sp ds G1 R (EX ρ)) I ⟨ρ,G,_,sr,g,q,fun vs H1 ds G1 t1 r1 g1 q1=>⟨t1,ds,G1,r1,g1,q1⟩⟩) fun us s1 ⟨⟨vs,H1,I1,r,t1,ds,G1,r1,g1,q1⟩,tp⟩=>⟨I1.xV,?_⟩) he hpl
  have h2:cT X.K sp vs H1 (fun v H'=>∃ d G',RD X.K H' d v∧HR X.K H' G'∧R d G') (vP X.K (EX ρ)):=⟨ds,G1,R,EX ρ,r1,g1,q1,fun v H' d G' r2 g2 q2=>⟨d,G',r2,g2,q2⟩,fun C H' G' g' q'=>⟨C,G',rfl,g',q'⟩⟩
  have hl:(us++[]).length=ps.length:=by rw [List.append_nil,← r.length];exact F.len _ _ _ _ h2
  refine wpAny_call (codeAny_mono (F.run X.A X.stack s1 H1 ⟨us,[]⟩ (us++[]) vs _ _ hr I1.env0 (hb s1 us I1.xV hl) (by rw [List.append_nil];exact r) h2 tp) fun r s' hq=>?_)
  cases r with
  | error e=>exact hx.a6B pins σ H1 s1 ρ e s' I1 (sr.mono t1) hq
  | ok fl =>
    cases fl with
    | ret u =>
      obtain ⟨v,H',os,bare,un,hok,r,d,G',r2,g2,q2⟩:=hq
      exact ⟨v,H',I1.call' (ch:=[]) os un hok bare (fun b z=>absurd z (by simp)),r,kk v H' d G' (t1.trans ⟨un.tups,un.d9⟩) r2 g2 q2⟩
    | next=>exact False.elim hq
    | brk=>exact False.elim hq
    | cont=>exact False.elim hq
end
end L2
namespace L4
open PySem PySem.Spec PyProof.Rows L2
inductive BF where
  | len | isi
  deriving DecidableEq
inductive MK where
  | append | join | split | upper | starts | count | abV
  deriving DecidableEq
inductive GT where
  | con (d:D) | cls (a:Addr) | fn (sp:rA) (n:Nat) (qt:Bool) | bf (b:BF) | bt (n:String) | kl (C:Addr) (sp:rA) (dd:List D) | me (C:Addr) (m:Str) (sp:rA) (dd:List D) | fl (C:Addr) (f:Str) | clo (c:vM) (sp:rA) | fnP (sp:rA) (n:Nat)
structure SI where
  N:List Str
  fl:List Bool
  lc:List Bool
  ce:List Bool
  gl:List (Str×GT)
  gv:List Bool
  calm:Bool
  need:Bool
mutual
inductive CE where
  | tix (k:Nat) (e:CE) | repl (e:CE) (y z:Str) | a9Z (ks:List Str) (es:CEs) | aa0 (k:Nat) (a o:CE) (c:Str) | fre (i:Nat) | callC (i k:Nat) (e:CE) (es:CEs) | var (i:Nat) | con (d:D) | glo (k:Nat) | neg (a:CE) | aiU (a:CE) | bin (o:Operator) (a b:CE) | cmp (o:CmpOp) (a b:CE)
  | abW (es:CEs) | ifx (c:CT) (a b:CE) | tup (es:CEs) | lst (es:CEs) | ix (a b:CE) | sl (a:CE) (lo hi:CO) | call (k:Nat) (es:CEs) | meth (m:MK) (o:CE) (es:CEs)
  | comp (fl gv:List Bool) (ci:CI) (cc:CC) (e:CE) | aa1 (n:Nat) (fl gv:List Bool) (ci:CI) (cc:CC) (e:CE) | dgt (o e f:CE)
inductive CEs where
  | nil | cons (e:CE) (r:CEs)
inductive CT where
  | cmp (o:CmpOp) (a b:CE) | not (t:CT) | and (ts:CTs) | or (ts:CTs) | val (e:CE)
inductive CTs where
  | nil | cons (t:CT) (r:CTs)
inductive CO where
  | none | some (e:CE)
inductive CI where
  | any (e:CE) | abX (e:CE)
inductive CC where
  | none | some (t:CT)
end
abbrev SI.cmp (S:SI) (xs:List Str) (fl gv:List Bool):SI:=⟨xs++S.N,xs.map (fun _=>true)++fl,xs.map (fun _=>true)++S.N.map (fun _=>false),xs.map (fun _=>false)++fl,S.gl,gv,S.calm,false⟩
def a6Y:cB:=fun _ _ _=>False
def al1:uM:=fun _ _ _=>False
def NoX:aN→aX:=fun _ _ _=>False
def al2:Operator→R3
  | .Add=>bC
  | .Sub=>a2R
  | .Mult=>vN
  | .FloorDiv=>iH
  | .Mod=>dB
  | .Pow=>akM
  | _=>fun _ _ _ _=>False
def aeL:CmpOp→R3
  | .Eq=>lR
  | .NotEq=>adM
  | .Lt=>ahQ
  | .LtE=>arY
  | .Gt=>adD
  | .GtE=>arX
  | .Is=>amX
  | .IsNot=>adF
  | .In=>adR
  | .NotIn=>pR
def at9 (K:Fg):BF→List D→Gp→dG→Prop
  | .len=>oF
  | .isi=>aD K
def ao3 (n:String):List D→Gp→dG→Prop:=if n = "int" then akS else if n = "list" then zZ else if n = "str" then akX else if n = "tuple" then vX else fun _ _ _=>False
def mkT:MK→String
  | .append => "list"
  | .join => "str"
  | .split => "str"
  | .upper => "str"
  | .starts => "str"
  | .count => "list"
  | .abV => "list"
def mkR:MK→RM3
  | .append=>lU
  | .join=>uV
  | .split=>pW
  | .upper=>zF
  | .starts=>oH
  | .count=>tL
  | .abV=>xG
def mkN:MK→Str
  | .append => "append"
  | .join => "join"
  | .split => "split"
  | .upper => "upper"
  | .starts => "startswith"
  | .count => "count"
  | .abV => "pop"
def ao4 (T:List (Str×GT)) (k:Nat):cB:=match T[k]? with
  | some (_,.con d)=>aV d
  | some (_,.cls a)=>aV (.ref a)
  | some (_,.bt n)=>aV (.ty n)
  | _=>a6Y
def ao5 (T:List (Str×GT)) (K:Fg) (ex:aN→aX) (k:Nat) (t:n6):cB:=match T[k]? with
  | some (_,.fn sp _ _)=>bY sp ex t
  | some (_,.cls a)=>ae8 a t
  | some (_,.bf b)=>iD (at9 K b) t
  | some (_,.bt n)=>iD (ao3 n) t
  | some (_,.kl C sp dd)=>a8C C sp dd ex t
  | _=>a6Y
def mCC (T:List (Str×GT)) (i k:Nat) (t:n6):cB:=match T[k]? with
  | some (_,.clo c sp)=>uT i c sp t
  | _=>a6Y
def ao6 (T:List (Str×GT)) (k:Nat) (t:cB):cB:=match T[k]? with
  | some (_,.con (.tup ds))=>aiM ds t
  | _=>a6Y
def mCP (T:List (Str×GT)) (ex:aN→aX) (k:Nat) (t:n6):cB:=match T[k]? with
  | some (_,.fnP sp _)=>bY sp ex t
  | _=>a6Y
mutual
def mE (T:List (Str×GT)) (K:Fg) (ex:aN→aX):CE→cB
  | .tix k e=>ao6 T k (mE T K ex e)
  | .repl e y z=>tM3 "str" oJ (mE T K ex e) (aA (aV (.str y)) (aA (aV (.str z)) aC))
  | .a9Z ks es=>a4W ks (mA T K ex es)
  | .aa0 k a o c=>mCP T ex k (aA (mE T K ex a) (aA (tM3 "str" pW (mE T K ex o) (aA (aV (.str c)) aC)) aC))
  | .fre i=>aB i
  | .callC i k e es=>mCC T i k (aA (mE T K ex e) (mA T K ex es))
  | .var i=>aB i
  | .con d=>aV d
  | .glo k=>ao4 T k
  | .neg a=>a9M (mE T K ex a)
  | .aiU a=>a4H (mE T K ex a)
  | .bin o a b=>aG (al2 o) (mE T K ex a) (mE T K ex b)
  | .cmp o a b=>aG (aeL o) (mE T K ex a) (mE T K ex b)
  | .abW es=>ao7 T K ex es
  | .ifx c a b=>abH (mT T K ex c) (mE T K ex a) (mE T K ex b)
  | .tup es=>yD (mA T K ex es)
  | .lst es=>fH (mA T K ex es)
  | .ix a b=>aG bR (mE T K ex a) (mE T K ex b)
  | .sl a lo hi=>cU (mE T K ex a) (mO T K ex lo) (mO T K ex hi)
  | .call k es=>ao5 T K ex k (mA T K ex es)
  | .meth m o .nil=>adT (mkT m) (mkR m) (mE T K ex o)
  | .meth m o (.cons e r)=>tM3 (mkT m) (mkR m) (mE T K ex o) (aA (mE T K ex e) (mA T K ex r))
  | .comp _ _ ci cc e=>a05 (mI T K ex ci) (mC T K cc) (mE T K NoX e)
  | .aa1 n _ _ ci cc e=>a9Q n (mI T K ex ci) (mC T K cc) (mE T K NoX e)
  | .dgt o e f=>zE (mE T K ex o) (mE T K ex e) (mE T K ex f)
def mA (T:List (Str×GT)) (K:Fg) (ex:aN→aX):CEs→n6
  | .nil=>aC
  | .cons e r=>aA (mE T K ex e) (mA T K ex r)
def ao7 (T:List (Str×GT)) (K:Fg) (ex:aN→aX):CEs→cB
  | .nil=>a6Y
  | .cons e .nil=>mE T K ex e
  | .cons e (.cons e' r)=>uP (mE T K ex e) (ao7 T K ex (.cons e' r))
def mOr (T:List (Str×GT)) (K:Fg) (ex:aN→aX):CEs→cB
  | .nil=>a6Y
  | .cons e .nil=>mE T K ex e
  | .cons e (.cons e' r)=>akK (mE T K ex e) (mOr T K ex (.cons e' r))
def mT (T:List (Str×GT)) (K:Fg) (ex:aN→aX):CT→uM
  | .cmp o a b=>aZ (aG (aeL o) (mE T K ex a) (mE T K ex b))
  | .not t=>yC (mT T K ex t)
  | .and ts=>aeM T K ex ts
  | .or ts=>ao8 T K ex ts
  | .val e=>aZ (mE T K ex e)
def aeM (T:List (Str×GT)) (K:Fg) (ex:aN→aX):CTs→uM
  | .nil=>al1
  | .cons e .nil=>mT T K ex e
  | .cons e (.cons e' r)=>a2Q (mT T K ex e) (aeM T K ex (.cons e' r))
def ao8 (T:List (Str×GT)) (K:Fg) (ex:aN→aX):CTs→uM
  | .nil=>al1
  | .cons e .nil=>mT T K ex e
  | .cons e (.cons e' r)=>a1U (mT T K ex e) (ao8 T K ex (.cons e' r))
def mO (T:List (Str×GT)) (K:Fg) (ex:aN→aX):CO→TO3
  | .none=>bZ
  | .some e=>eV (mE T K ex e)
def mI (T:List (Str×GT)) (K:Fg) (ex:aN→aX):CI→TI3
  | .any e=>uU (mE T K ex e)
  | .abX e=>xB (aA (mE T K ex e) aC)
def mC (T:List (Str×GT)) (K:Fg):CC→uM
  | .none=>xD
  | .some t=>mT T K NoX t
end
def isStar:Expr→Bool
  | .Starred ..=>true
  | _=>false
def isSlice:Expr→Bool
  | .Slice ..=>true
  | _=>false
def dI:Expr→Bool
  | .Call (.Name id _) [] [] _=>id != ("super" : Str)
  | _=>true
def isSet:Expr→Bool
  | .Set ..=>true
  | _=>false
def ao9:BF→String
  | .len => "len"
  | .isi => "isinstance"
def al3:BF→Value
  | b => .builtin (ao9 b)
def a8F:BF→Bool
  | .len=>true
  | .isi=>true
def vY (S:SI):Bool:=(List.range S.gl.length).any fun k=>S.gv[k]? == some true&&match S.gl[k]? with
  | some (y,.bt n)=>y == ("range" : Str)&&n == "range"
  | _=>false
def aoA (S:SI) (y:Str):Bool:=(List.range S.N.length).any fun i=>S.N[i]? == some y&&S.ce[i]? == some true
def a4X:List Str→Bool
  | []=>true
  | x :: r=>!r.contains x&&a4X r
def yG:List Expr→Option (List Str)
  | []=>some []
  | .Name x _ :: r=>(yG r).map (x :: ·)
  | _=>none
def u0 (S:SI) (xs:List Str) (scope:Scope) (fl gv:List Bool):Bool :=
  scope.kind == .function&&scope.names.all (fun y=>y.2 != .cell&&(y.2 != .local || scope.names.lookup y.1 == some .local)&&(y.2 != .free || aoA S y.1)) &&
  xs.all (fun x=>scope.names.lookup x == some .local&&!S.N.contains x&&x != ("__debug__" : Str)&&x != ("__classdict__" : Str))&&a4X xs &&
  S.N.all (fun y=>scope.names.lookup y != some .local) &&
  (List.range S.N.length).all (fun i=>fl[i]? != some true || (S.fl[i]? == some true&&match S.N[i]? with
    | some y=>scope.names.lookup y == some .free
    | none=>false)) &&
  (List.range S.gl.length).all (fun k=>gv[k]? != some true || match S.gl[k]? with
    | some (y,_)=>scope.names.lookup y == some .globalImplicit
    | none=>false)
def al4:D→Const→Bool
  | .int i,.int j=>i == j
  | .str s,.str t=>s == t
  | .bl b,.bool c=>b == c
  | .non,.none=>true
  | _,_=>false
def plainT:Expr→Bool
  | .UnaryOp .Not _ _=>false
  | .BoolOp ..=>false
  | .IfExp ..=>false
  | .Compare ..=>false
  | _=>true
def aeN (S:SI) (k:Nat) (x:Str):Bool:=match S.gl[k]? with
  | some (y,.con _)=>y == x
  | some (y,.cls _)=>y == x
  | some (y,.bt _)=>y == x
  | _=>false
def aa2 (S:SI) (k:Nat) (x:Str) (e:Bool):Bool:=match S.gl[k]? with
  | some (y,.fn _ _ qt)=>y == x&&(qt || S.calm)
  | some (y,.cls _)=>y == x
  | some (y,.bf b)=>y == x&&e&&(S.calm || a8F b)
  | some (y,.bt _)=>y == x&&e
  | some (y,.kl _ _ _)=>y == x&&S.calm
  | _=>false
def az4:Expr→Option (Expr×Str×Bool)
  | .Call (.Attribute y n ap) [] [] cp=>some (y,n,ap.endLine == cp.line)
  | _=>none
def av4:Expr→Option (Str×Expr)
  | .Call (.Name x _) [z] [] _=>some (x,z)
  | _=>none
def aoB (S:SI) (k:Nat):Bool:=match S.gl[k]? with
  | some (_,.clo _ _)=>true
  | _=>false
def aoC (S:SI) (k:Nat) (x:Str):Bool:=match S.gl[k]? with
  | some (y,.con (.tup _))=>y == x
  | _=>false
def aoD (S:SI) (k:Nat) (x:Str):Bool:=match S.gl[k]? with
  | some (y,.fnP _ _)=>y == x
  | _=>false
def a0A:List Str→List (Option Expr)→Bool
  | [],[]=>true
  | k :: ks,some (.Constant (.str k') _ _) :: es=>k == k'&&a0A ks es
  | _,_=>false
mutual
def kE (S:SI):CE→Expr→Bool
  | .fre i,.Name x _=>S.N[i]? == some x&&S.ce[i]? == some true&&x != ("__debug__" : Str)&&x != ("__classdict__" : Str)
  | .tix k e,.Call (.Attribute (.Name x _) n ap) [y] [] cp=>aoC S k x&&S.gv[k]? == some true&&n == ("index" : Str)&&!isStar y&&ap.endLine == cp.line&&kE S e y
  | .repl e y z,.Call (.Attribute o n ap) [.Constant (.str y') _ _,.Constant (.str z') _ _] [] cp=>S.need&&n == ("replace" : Str)&&y' == y&&z' == z&&y != z&&dI o&&ap.endLine == cp.line&&kE S e o
  | .a9Z ks es,.Dict keys values _=>a0A ks keys&&qX S es values&&keys.length == values.length&&decide (keys≠[]∧keys.length≤15)
  | .aa0 k a o c,.Call (.Name x _) [y,.Call (.Attribute oe n ap) [.Constant (.str c') _ _] [] cp] [] _=>aoD S k x&&S.gv[k]? == some true&&S.calm&&!isStar y&&kE S a y&&n == ("split" : Str)&&c' == c&&dI oe&&ap.endLine == cp.line&&kE S o oe
  | .callC i k e es,.Call (.Name x _) (y :: ys) [] _=>S.N[i]? == some x&&S.fl[i]? == some true&&S.calm&&aoB S k&&!isStar y&&kE S e y&&qX S es ys
  | .var i,.Name x _=>S.N[i]? == some x&&S.fl[i]? == some true
  | .con d,.Constant c _ _=>al4 d c
  | .glo k,.Name x _=>S.gv[k]? == some true&&aeN S k x
  | .neg a,.UnaryOp .USub e _=>kE S a e
  | .aiU a,.UnaryOp .Not e _=>kE S a e
  | .bin o a b,.BinOp x o' y _=>o == o'&&kE S a x&&kE S b y
  | .cmp o a b,.Compare x [o'] [y] _=>o == o'&&!behindInMarks o' y&&kE S a x&&kE S b y
  | .abW es,.BoolOp .And xs _=>qX S es xs
  | .ifx c a b,.IfExp t x y _=>kT S c t&&kE S a x&&kE S b y
  | .tup es,.Tuple xs _ _=>qX S es xs
  | .lst es,.List xs _=>qX S es xs
  | .ix a b,.Subscript x y _=>!isSlice y&&kE S a x&&kE S b y
  | .sl a lo hi,.Subscript x (.Slice l h none _) _=>kE S a x&&kO S lo l&&kO S hi h
  | .call k es,.Call (.Name x _) xs [] _=>qX S es xs&&S.gv[k]? == some true&&aa2 S k x (!xs.isEmpty)
  | .meth m o es,.Call (.Attribute y n ap) xs [] cp=>n == mkN m&&dI y&&ap.endLine == cp.line&&decide (xs.length < 30)&&kE S o y&&qX S es xs
  | .comp fl gv ci cc e,.ListComp elt [⟨.Name x _,iter,ifs,a⟩] scope _=>a == 0&&u0 S [x] scope fl gv&&!isSet iter&&kI S false ci iter&&kC (S.cmp [x] fl gv) cc ifs&&kE (S.cmp [x] fl gv) e elt
  | .aa1 n fl gv ci cc e,.ListComp elt [⟨.Tuple es _ _,iter,ifs,a⟩] scope _=>S.calm&&a == 0&&(match yG es with
    | some xs=>xs.length == n&&u0 S xs scope fl gv&&!isSet iter&&kI S true ci iter&&kC (S.cmp xs fl gv) cc ifs&&kE (S.cmp xs fl gv) e elt
    | none=>false)
  | .dgt o e f,.Call (.Attribute y n ap) [x,z] [] cp=>n == ("get" : Str)&&dI y&&ap.endLine == cp.line&&!isStar x&&!isStar z&&kE S o y&&kE S e x&&kE S f z
  | _,_=>false
def qX (S:SI):CEs→List Expr→Bool
  | .nil,[]=>true
  | .cons e r,x :: xs=>!isStar x&&kE S e x&&qX S r xs
  | _,_=>false
def kT (S:SI):CT→Expr→Bool
  | .cmp o a b,.Compare x [o'] [y] _=>o == o'&&!behindInMarks o' y&&kE S a x&&kE S b y
  | .not t,.UnaryOp .Not e _=>kT S t e
  | .and ts,.BoolOp .And xs _=>kTs S ts xs
  | .or ts,.BoolOp .Or xs _=>kTs S ts xs
  | .val e,x=>plainT x&&kE S e x
  | _,_=>false
def kTs (S:SI):CTs→List Expr→Bool
  | .nil,[]=>true
  | .cons e r,x :: xs=>kT S e x&&kTs S r xs
  | _,_=>false
def kO (S:SI):CO→Option Expr→Bool
  | .none,none=>true
  | .some e,some x=>kE S e x
  | _,_=>false
def kI (S:SI) (tt:Bool):CI→Expr→Bool
  | .any e,x=>kE S e x
  | .abX e,.Call (.Name r _) [y] [] _=>r == ("range" : Str)&&vY S&&!isStar y&&kE S e y
  | _,_=>false
def kC (S:SI):CC→List Expr→Bool
  | .none,[]=>true
  | .some t,[x]=>kT S t x
  | _,_=>false
end
end L4
namespace L4
open PySem PySem.Spec PyProof.Rows L2
theorem bA {e:Expr} {es:List Expr} {env:Env} (h:isStar e=false):starEach (e :: es) env=(false,eval e env) :: starEach es env:=by
  cases e <;> first | rfl | (exact absurd (show true=false from h) (by decide))
theorem oK {S:SI} {env:Env} {pos:Pos}:∀ {cs:CEs} {xs:List Expr},qX S cs xs=true→(backTo pos (starEach xs env)).any (·.1)=false
  | .nil,[],_=>rfl
  | .nil,_ :: _,h=>absurd (show false=true from h) (by decide)
  | .cons _ _,[],h=>absurd (show false=true from h) (by decide)
  | .cons e r,x :: xs,h=>by
    have h':(!isStar x&&kE S e x&&qX S r xs)=true:=h
    simp only [Bool.and_eq_true,Bool.not_eq_true'] at h'
    rw [bA h'.1.1]
    show (false || (backTo pos (starEach xs env)).any (·.1))=false
    rw [oK h'.2];rfl
theorem cP {o:Expr} {n:Str} {env:Env} (h:dI o=true):attributeBase o n env (eval o env)=eval o env:=by
  cases o with
  | Call f args kws pos =>
    cases f with
    | Name id p =>
      cases args with
      | nil =>
        cases kws with
        | nil =>
          have h':(id != ("super" : Str))=true:=h
          unfold attributeBase
          simp only [h',Bool.true_or,if_true]
        | cons _ _=>rfl
      | cons _ _=>cases kws <;> rfl
    | _=>rfl
  | _=>rfl
abbrev BMv:List Value:=[.type "ValueError",.type "Exception",.type "BaseException",.type "object"]
def aoE (X:Cx) (cm:Bool) (x:Str):GT→Prop
  | .con d=>∃ u v,X.mg x=some u∧RelV v u∧∀ H,RD X.K H d v
  | .cls a=>X.mg x=some (.ref a)∧PySem.W.excIn X.K a BMv "ValueError.__new__" = true
  | .fn sp n qt=>(qt=true∨cm=true)→∃ k f fd ps,cR qt X.prog X.w X.K X.mg X.base (kJ X.prog X.w) k f fd ps (cT X.K sp)∧cH qt k X.A∧X.mg x=some (.ref f)∧PySem.W.keepIn X.K (.ref f)=true∧Binds X.K fd ps []
  | .bf b=>X.mg x=none∧bootBuiltins x=some (al3 b)
  | .bt n=>X.mg x=none∧bootBuiltins x=some (.type n)
  | .kl C sp dd=>cm=true→∃ k f fd ps ds v8,Mk X.K C f∧cR false X.prog X.w X.K X.mg X.base (kJ X.prog X.w) k f fd ps (cT X.K sp)∧cH false (k+1) X.A∧X.mg x=some (.ref C)∧Binds X.K fd ps ds∧Vals v8 ds∧∀ H,bM X.K H dd v8
  | .me C m sp dd=>cm=true→∃ k f fd ps ds v8,Cls X.K C∧Meth X.K C m f∧cR false X.prog X.w X.K X.mg X.base (kJ X.prog X.w) k f fd ps (cT X.K sp)∧cH false k X.A∧Binds X.K fd ps ds∧Vals v8 ds∧∀ H,bM X.K H dd v8
  | .fl C f=>Cls X.K C∧acZ X.K C f
  | .clo c sp=>cm=true→∃ k,rM false X.prog X.w X.K X.mg X.base k c sp∧cH false k X.A
  | .fnP sp n=>cm=true→∃ k f fd ps,rT false X.prog X.w X.K X.mg X.base (kJ X.prog X.w) k f fd ps (cT X.K sp)∧cH false k X.A∧X.mg x=some (.ref f)∧PySem.W.keepIn X.K (.ref f)=true∧Binds X.K fd ps []
structure lW (X:Cx) (S:SI) (ex:aN→aX):Prop where
  N:X.N=S.N
  nd:X.N.Nodup
  vis:∀ (i:Nat) (x:Str),S.N[i]?=some x→S.fl[i]?=some true→Vis X.env.scope x∧(x == ("__debug__" : Str))=false∧(x == ("__classdict__" : Str))=false
  ce:∀ (i:Nat) (x:Str),S.N[i]?=some x→S.ce[i]?=some true→X.env.kindOf x=some .cell∨X.env.kindOf x=some .free
  gm:∀ (k:Nat) (x:Str) (g:GT),S.gl[k]?=some (x,g)→(S.gv[k]?=some true→Gl X x)∧(x == ("__debug__" : Str))=false∧x ≠ "__name__" ∧ aoE X S.calm x g
  hu:X.A.units+64 < cLine
  cm:S.calm=true→X.calm=true
  cat:Cat X ex
  nk:S.need=true→X.need=true
theorem lW.gl {X:Cx} {S:SI} {ex:aN→aX} (Q:lW X S ex) (k:Nat) (x:Str) (g:GT) (h:S.gl[k]?=some (x,g)) (hv:S.gv[k]?=some true):Gl X x∧(x == ("__debug__" : Str))=false∧x ≠ "__name__" ∧ aoE X S.calm x g :=
  ⟨(Q.gm k x g h).1 hv,(Q.gm k x g h).2⟩
section
variable {X:Cx} {S:SI} {ex:aN→aX}
theorem aeO {e:Expr}:cI X e a6Y:=fun _ _ _ _ _ _ ⟨_,_,_,_,_,z,_⟩=>z.elim
theorem aiW {o:Operator}:zV X (binaryOp o) (al2 o):=by
  have no:∀ {f:Value→Value→Sem Value},zV X f (fun _ _ _ _=>False):=fun {f}=>⟨fun _ _ _ _=>False,fun _ _ _ _ _ _ _ _ _ _ _ _ h=>h.elim,fun _ _ _ _ _ _ _ _ _ _ _ h _=>h.elim⟩
  exact match o with
  | .Add=>arZ
  | .Sub=>arT
  | .Mult=>arU
  | .FloorDiv=>amW
  | .Mod=>arV
  | .Pow=>arW
  | .MatMult=>no
  | .Div=>no
  | .LShift=>no
  | .RShift=>no
  | .BitOr=>no
  | .BitXor=>no
  | .BitAnd=>no
theorem aa3 {o:CmpOp} (hu:X.A.units+64 < cLine):uO X (compareOp o) (aeL o):=by
  exact match o with
  | .Eq=>ax0 hu
  | .NotEq=>ax1 hu
  | .Lt=>awD
  | .LtE=>awG
  | .Gt=>awE
  | .GtE=>awF
  | .Is=>awH
  | .IsNot=>amY
  | .In=>ax4 hu
  | .NotIn=>ai3 hu
theorem atB {n:String}:eX X (.type n) (ao3 n):=by
  unfold ao3
  split
  · rename_i h;subst h;exact asI
  · split
    · rename_i h;subst h;exact anI
    · split
      · rename_i h;subst h;exact asZ
      · split
        · rename_i h;subst h;exact aiK
        · exact fun _ _ _ _ _ _ _ _ _ _ _ _ _ _ h _=>h.elim
theorem aeP {qt:Bool} {k:Nat} {f:Addr} {fd:FuncData} {ps:List Str} {sp:rA} {x:Str} {p pos:Pos} (F:cR qt X.prog X.w X.K X.mg X.base (kJ X.prog X.w) k f fd ps (cT X.K sp)) (hr:cH qt k X.A) (hg:Gl X x) (hm:X.mg x=some (.ref f)) (hk:PySem.W.keepIn X.K (.ref f)=true) (hb:Binds X.K fd ps []) (hx:Cat X ex)
    (hdb:(x == ("__debug__" : Str))=false):cI X (.Call (.Name x p) [] [] pos) (bY sp ex aC):=by
  intro pins s σ H Q I h _tk
  obtain ⟨ρ,G,R,sr,g,q,kk⟩:=h
  refine wpAny_Call_Name_kw (fU I hg hm ?_ hdb)
  refine PySem.W.callWith_K0 I.xV hk ?_
  exact a9K (E:=vP X.K (ex ρ)) F hr hb (fun e s' c=>hx.a6B pins σ H s ρ e s' I sr c) I .nil (Q:=fun v H'=>∃ d G',RD X.K H' d v∧HR X.K H' G'∧R d G') ⟨[],G,R,ex ρ,.nil,g,q,fun v H' d G' r2 g2 q2=>⟨d,G',r2,g2,q2⟩,fun C H' G' g' q'=>⟨C,G',rfl,g',q'⟩⟩ fun v H' t2 ⟨d,G',r2,g2,q2⟩=>kk v H' d G' t2 r2 g2 q2
theorem rW {xs:List Expr} {cs:CEs} {cp:Pos} (h:qX S cs xs=true) (hl:xs.length < 30):((backTo cp (starEach xs X.env)).all (fun x=>!x.1)&&(backToKw cp (keywordEach [] X.env)).all (fun x=>x.1.isSome)
      && decide (xs.length+([]:List Keyword).length+(if ([]:List Keyword).isEmpty then 0 else 1) < 30))=true:=by
  have h1:(backTo cp (starEach xs X.env)).all (fun x=>!x.1)=true:=by
    rw [List.all_eq_true]
    intro y hy
    have:=oK (env:=X.env) (pos:=cp) h
    rw [List.any_eq_false] at this
    have:=this y hy
    simpa using this
  have h2:(decide (xs.length+([]:List Keyword).length+(if ([]:List Keyword).isEmpty then 0 else 1) < 30))=true:=decide_eq_true (by simpa using hl)
  rw [h1,h2];rfl
end
end L4
namespace L4
open PySem PySem.Spec PyProof.Rows L2
section
variable {X:Cx} {S:SI} {ex:aN→aX}
theorem aoF {d:D} {c:Const} {j:Nat} {pos:Pos} (h:al4 d c=true):cI X (.Constant c j pos) (aV d):=by
  cases d <;> cases c <;> first | exact absurd (show false=true from h) (by decide) | skip
  · exact arD
  · have:=beq_iff_eq.mp h;subst this;exact aw9
  · have:=beq_iff_eq.mp h;subst this;exact arC
  · have:=beq_iff_eq.mp h;subst this;exact arE
theorem aoG {e:Expr} (h:plainT e=true):∀ whole,isTrue e X.env whole=(do let v ← whole;standAt e.pos;holding [v] (truthy v)):=by
  cases e with
  | UnaryOp op x p=>cases op <;> first | exact absurd (show false=true from h) (by decide) | (intro _;rfl)
  | BoolOp _ _ _=>exact absurd (show false=true from h) (by decide)
  | IfExp _ _ _ _=>exact absurd (show false=true from h) (by decide)
  | Compare _ _ _ _=>exact absurd (show false=true from h) (by decide)
  | _=>intro _;rfl
theorem atD {e:Expr} (h:isSlice e=false):a3Z e:=by
  cases e with
  | Slice _ _ _ _=>exact absurd (show true=false from h) (by decide)
  | _=>intro _ _;rfl
theorem atE (Q:lW X S ex) {k:Nat} {x:Str} {b:BF} (hk:S.gl[k]?=some (x,.bf b)) (hv:S.gv[k]?=some true) (hc:(S.calm || a8F b)=true) {e:Expr} {es:List Expr} {t:n6} {p pos:Pos} (ha:PA3 X (e :: es) t) (he:isStar e=false) (hp:(backTo pos (starEach es X.env)).any (·.1)=false):cI X (.Call (.Name x p) (e :: es) [] pos) (iD (at9 X.K b) t):=by
  obtain ⟨h1,h2,h3,h4⟩:=Q.gl _ _ _ hk hv
  have cm:a8F b=false→X.calm=true:=fun z=>by
    rw [z,Bool.or_false] at hc
    exact Q.cm hc
  cases b with
  | len=>exact a9O asH h1 h4.1 h4.2 ha h3 h2 (bA he) hp
  | isi=>exact a9O a4M h1 h4.1 h4.2 ha h3 h2 (bA he) hp
theorem aiX {m:MK} {o:Expr} {to:cB} {ap cp:Pos} (ho:cI X o to) (hb:dI o=true) (hl:(ap.endLine == cp.line)=true):cI X (.Call (.Attribute o (mkN m) ap) [] [] cp) (adT (mkT m) (mkR m) to):=by
  cases m with
  | append=>exact a01 PySem.F.plainAttrs_list PySem.F.slot_list_append PySem.F.type_list_append a6K ho (cP hb) hl
  | join=>exact a01 PySem.F.plainAttrs_str PySem.F.slot_str_join PySem.F.type_str_join ae6 ho (cP hb) hl
  | split=>exact a01 PySem.F.plainAttrs_str PySem.F.slot_str_split PySem.F.type_str_split m_split ho (cP hb) hl
  | upper=>exact a01 PySem.F.plainAttrs_str PySem.F.slot_str_upper PySem.F.type_str_upper m_upper ho (cP hb) hl
  | starts=>exact a01 PySem.F.plainAttrs_str PySem.F.slot_str_startswith PySem.F.type_str_startswith a6X ho (cP hb) hl
  | count=>exact a01 PySem.F.plainAttrs_list PySem.F.slot_list_count PySem.F.type_list_count a9W ho (cP hb) hl
  | abV=>exact a01 PySem.F.plainAttrs_list PySem.F.slot_list_pop PySem.F.type_list_pop aeF ho (cP hb) hl
theorem aeQ {m:MK} {o e:Expr} {es:List Expr} {to:cB} {t:n6} {cs:CEs} {ap cp:Pos} (ho:cI X o to) (ha:PA3 X (e :: es) t) (hb:dI o=true) (hl:(ap.endLine == cp.line)=true) (hk:qX S cs (e :: es)=true) (hn:(e :: es).length < 30) :
    cI X (.Call (.Attribute o (mkN m) ap) (e :: es) [] cp) (tM3 (mkT m) (mkR m) to t):=by
  have he:isStar e=false:=by
    cases cs with
    | nil=>exact absurd (show false=true from hk) (by decide)
    | cons c r =>
      have h':(!isStar e&&kE S c e&&qX S r es)=true:=hk
      simp only [Bool.and_eq_true,Bool.not_eq_true'] at h'
      exact h'.1.1
  have hp:(backTo cp (starEach es X.env)).any (·.1)=false:=by
    have:=oK (env:=X.env) (pos:=cp) hk
    rw [bA he] at this
    have z:(false || (backTo cp (starEach es X.env)).any (·.1))=false:=this
    simpa using z
  cases m with
  | append=>exact a86 PySem.F.plainAttrs_list PySem.F.slot_list_append PySem.F.type_list_append a6K ho ha (cP hb) (rW hk hn) hl (bA he) hp
  | join=>exact a86 PySem.F.plainAttrs_str PySem.F.slot_str_join PySem.F.type_str_join ae6 ho ha (cP hb) (rW hk hn) hl (bA he) hp
  | split=>exact a86 PySem.F.plainAttrs_str PySem.F.slot_str_split PySem.F.type_str_split m_split ho ha (cP hb) (rW hk hn) hl (bA he) hp
  | upper=>exact a86 PySem.F.plainAttrs_str PySem.F.slot_str_upper PySem.F.type_str_upper m_upper ho ha (cP hb) (rW hk hn) hl (bA he) hp
  | starts=>exact a86 PySem.F.plainAttrs_str PySem.F.slot_str_startswith PySem.F.type_str_startswith a6X ho ha (cP hb) (rW hk hn) hl (bA he) hp
  | count=>exact a86 PySem.F.plainAttrs_list PySem.F.slot_list_count PySem.F.type_list_count a9W ho ha (cP hb) (rW hk hn) hl (bA he) hp
  | abV=>exact a86 PySem.F.plainAttrs_list PySem.F.slot_list_pop PySem.F.type_list_pop aeF ho ha (cP hb) (rW hk hn) hl (bA he) hp
local macro_rules | `(tactic| walk_at "off")=>`(tactic| exact absurd (show false=true from by assumption) (by decide))
theorem aoH (Q:lW X S ex) {k:Nat} {x:Str} {p:Pos} (h:kE S (.glo k) (.Name x p)=true):cI X (.Name x p) (ao4 S.gl k):=by
  have h':(S.gv[k]? == some true&&aeN S k x)=true:=h
  rw [Bool.and_eq_true] at h'
  obtain ⟨hv,h⟩:=h'
  have hv:=beq_iff_eq.mp hv
  unfold aeN at h
  unfold ao4
  split at h
  · rename_i y d hk
    have:=beq_iff_eq.mp h;subst this
    obtain ⟨h1,h2,h3,u,v,h4,h5,h6⟩:=Q.gl _ _ _ hk hv
    exact adC h1 h4 h5 h6 h2
  · rename_i y d hk
    have:=beq_iff_eq.mp h;subst this
    obtain ⟨h1,h2,h3,h4⟩:=Q.gl _ _ _ hk hv
    exact adC h1 h4.1 (v := .ref d) rfl (fun _ => .ref _) h2
  · rename_i y d hk
    have:=beq_iff_eq.mp h;subst this
    obtain ⟨h1,h2,h3,h4⟩:=Q.gl _ _ _ hk hv
    exact amS h1 h4.1 h4.2 h3 h2
  · exact absurd h (by decide)
theorem aiY (Q:lW X S ex) {k:Nat} {es:CEs} {x:Str} {p pos:Pos} {xs:List Expr} (ha:PA3 X xs (mA S.gl X.K ex es)) (hk:qX S es xs=true) (hv:S.gv[k]?=some true) (h:aa2 S k x (!xs.isEmpty)=true):cI X (.Call (.Name x p) xs [] pos) (ao5 S.gl X.K ex k (mA S.gl X.K ex es)):=by
  unfold aa2 at h
  unfold ao5
  have one:∀ {e:Expr} {r:List Expr},xs=e :: r→isStar e=false∧(backTo pos (starEach r X.env)).any (·.1)=false:=fun {e r} z=>by
    subst z
    cases es with
    | nil=>exact absurd (show false=true from hk) (by decide)
    | cons c cr =>
      have h':(!isStar e&&kE S c e&&qX S cr r)=true:=hk
      simp only [Bool.and_eq_true,Bool.not_eq_true'] at h'
      exact ⟨h'.1.1,oK h'.2⟩
  split at h
  · rename_i y sp n qt hg
    rw [Bool.and_eq_true] at h
    obtain ⟨h,hc⟩:=h
    have:=beq_iff_eq.mp h;subst this
    obtain ⟨h1,h2,h3,h4⟩:=Q.gl _ _ _ hg hv
    obtain ⟨j,f,fd,ps,F,hr,hm,hkp,hb⟩:=h4 (Bool.or_eq_true _ _ |>.mp hc)
    cases xs with
    | nil =>
      cases es with
      | nil=>exact aeP F hr h1 hm hkp hb Q.cat h2
      | cons _ _=>exact absurd (show false=true from hk) (by decide)
    | cons e r=>exact ahU F hr h1 hm hkp hb Q.cat ha h2 (bA (one rfl).1) (one rfl).2
  · rename_i y a hg
    have:=beq_iff_eq.mp h;subst this
    obtain ⟨h1,h2,h3,h4,h5⟩:=Q.gl _ _ _ hg hv
    cases xs with
    | nil =>
      cases es with
      | nil=>exact anY PySem.F.excBase_ValueError (by decide) PySem.F.excBase_ValueError h1 h4 h5 h2
      | cons _ _=>exact absurd (show false=true from hk) (by decide)
    | cons e r=>exact asT PySem.F.excBase_ValueError (by decide) PySem.F.excBase_ValueError h1 h4 h5 ha h2 (bA (one rfl).1) (one rfl).2
  · rename_i y b hg
    rw [Bool.and_eq_true,Bool.and_eq_true] at h
    obtain ⟨⟨h,hc⟩,hcm⟩:=h
    have:=beq_iff_eq.mp h;subst this
    cases xs with
    | nil=>exact absurd (show false=true from hc) (by decide)
    | cons e r=>exact atE Q hg hv hcm ha (one rfl).1 (one rfl).2
  · rename_i y n hg
    rw [Bool.and_eq_true] at h
    obtain ⟨h,hc⟩:=h
    have:=beq_iff_eq.mp h;subst this
    obtain ⟨h1,h2,h3,h4⟩:=Q.gl _ _ _ hg hv
    cases xs with
    | nil=>exact absurd (show false=true from hc) (by decide)
    | cons e r=>exact adO atB h1 h4.1 h4.2 ha h3 h2 (bA (one rfl).1) (one rfl).2
  · rename_i y C sp dd hg
    rw [Bool.and_eq_true] at h
    obtain ⟨h,hc⟩:=h
    have:=beq_iff_eq.mp h;subst this
    obtain ⟨h1,h2,h3,h4⟩:=Q.gl _ _ _ hg hv
    obtain ⟨kk,f,fd,ps,ds,v8,q1,q2,q3,q4,q5,q6,q7⟩:=h4 hc
    cases xs with
    | nil =>
      cases es with
      | nil=>exact aeA q1 q2 q3 h1 q4 q5 q6 q7 Q.cat h2
      | cons _ _=>exact absurd (show false=true from hk) (by decide)
    | cons e r=>exact aiG q1 q2 q3 h1 q4 q5 q6 q7 Q.cat ha h2 (bA (one rfl).1) (one rfl).2
  · exact absurd h (by decide)
theorem lX {names:List (Str×NameKind)} {env:Env} {y:Str} {k:NameKind} (h:names.lookup y=some k) :
    (names.map fun (n,k)=>if (k == .free&&env.scope.kind == .function&&env.kindOf n == some .cell) then (n,.cell) else (n,k)).lookup y=some k ∨
    (k = .free∧(names.map fun (n,k)=>if (k == .free&&env.scope.kind == .function&&env.kindOf n == some .cell) then (n,.cell) else (n,k)).lookup y=some .cell):=by
  induction names with
  | nil=>simp at h
  | cons p r ih =>
    obtain ⟨n,kd⟩:=p
    rw [List.lookup_cons] at h
    show List.lookup y ((if (kd == .free&&env.scope.kind == .function&&env.kindOf n == some .cell)=true then (n,NameKind.cell) else (n,kd)) :: _)=some k∨(k = .free∧List.lookup y ((if (kd == .free&&env.scope.kind == .function&&env.kindOf n == some .cell)=true then (n,NameKind.cell) else (n,kd)) :: _)=some .cell)
    cases hx:y == n with
    | true =>
      rw [hx] at h
      have hkd:kd=k:=by simpa using h
      subst hkd
      by_cases hc:(kd == .free&&env.scope.kind == .function&&env.kindOf n == some .cell)=true
      · rw [if_pos hc,List.lookup_cons,hx]
        refine .inr ⟨?_,rfl⟩
        simp only [Bool.and_eq_true,beq_iff_eq] at hc
        exact hc.1.1
      · rw [if_neg hc,List.lookup_cons,hx]
        exact .inl rfl
    | false =>
      rw [hx] at h
      have z:=ih h
      by_cases hc:(kd == .free&&env.scope.kind == .function&&env.kindOf n == some .cell)=true
      · rw [if_pos hc,List.lookup_cons,hx]
        exact z
      · rw [if_neg hc,List.lookup_cons,hx]
        exact z
theorem a3H:∀ {xs:List Str},a4X xs=true→xs.Nodup
  | [],_=>List.nodup_nil
  | x :: r,h=>by
    have h':(!r.contains x&&a4X r)=true:=h
    rw [Bool.and_eq_true] at h'
    exact List.nodup_cons.mpr ⟨by simpa using h'.1,a3H h'.2⟩
theorem yH {xs:List Str} {scope:Scope} {fl gv:List Bool} (h:u0 S xs scope fl gv=true) :
    scope.kind = .function∧(∀ y∈scope.names,y.2 ≠ .cell∧(y.2 = .local→scope.names.lookup y.1=some .local)∧(y.2 = .free→aoA S y.1=true)) ∧
    (∀ x∈xs,scope.names.lookup x=some .local∧x ∉ S.N∧(x == ("__debug__" : Str))=false∧(x == ("__classdict__" : Str))=false)∧xs.Nodup∧(∀ y∈S.N,scope.names.lookup y≠some .local) ∧
    (∀ (i:Nat) (y:Str),S.N[i]?=some y→fl[i]?=some true→S.fl[i]?=some true∧scope.names.lookup y=some .free) ∧
    ∀ (k:Nat) (y:Str) (g:GT),S.gl[k]?=some (y,g)→gv[k]?=some true→scope.names.lookup y=some .globalImplicit:=by
  unfold u0 at h
  simp only [Bool.and_eq_true] at h
  obtain ⟨⟨⟨⟨⟨⟨h1,h2⟩,h3⟩,h4⟩,h5⟩,h8⟩,h9⟩:=h
  refine ⟨beq_iff_eq.mp h1,fun y hy=>?_,fun x hx=>?_,a3H h4,fun y hy=>?_,fun i y e1 e2=>?_,fun k y g e1 e2=>?_⟩
  · have z:=List.all_eq_true.mp h2 y hy
    simp only [Bool.and_eq_true,bne_iff_ne,ne_eq,Bool.or_eq_true,beq_iff_eq] at z
    obtain ⟨⟨z1,z2⟩,z3⟩:=z
    exact ⟨z1,fun e=>z2.resolve_left fun n=>n e,fun e=>z3.resolve_left fun n=>n e⟩
  · have z:=List.all_eq_true.mp h3 x hx
    simp only [Bool.and_eq_true] at z
    obtain ⟨⟨⟨z1,z2⟩,z3⟩,z4⟩:=z
    exact ⟨beq_iff_eq.mp z1,by simpa using z2,by simpa using z3,by simpa using z4⟩
  · have z:=List.all_eq_true.mp h5 y hy
    simpa using z
  · have z:=List.all_eq_true.mp h8 i (List.mem_range.mpr (List.getElem?_eq_some_iff.mp e1).1)
    rw [e2,e1] at z
    simpa using z
  · have z:=List.all_eq_true.mp h9 k (List.mem_range.mpr (List.getElem?_eq_some_iff.mp e1).1)
    rw [e2,e1] at z
    simpa using z
theorem iJ (Q:lW X S ex) {xs:List Str} {scope:Scope} {fl gv:List Bool} (h:u0 S xs scope fl gv=true):pU X xs scope:=by
  obtain ⟨h1,h2,h3,h4,h5,h8,h9⟩:=yH h
  refine ⟨h1,fun y hy=>(h2 y hy).1,fun y hy=>(h2 y hy).2.1,fun x hx=>(h3 x hx).1,fun y hy e=>?_,fun x hx=>by rw [Q.N];exact (h3 x hx).2.1,h4,by rw [Q.N];exact h5⟩
  have z:=(h2 y hy).2.2 e
  unfold aoA at z
  obtain ⟨i,_,z⟩:=List.any_eq_true.mp z
  rw [Bool.and_eq_true] at z
  exact Q.ce i y.1 (beq_iff_eq.mp z.1) (beq_iff_eq.mp z.2)
theorem aeR {X:Cx}:Cat X NoX:=⟨fun _ _ _ _ _ _ _ _ _ ⟨_,_,_,_,_,_,_,_,_,_,_,_,z⟩=>by obtain ⟨_,_,_,_,z⟩:=z;exact z.elim⟩
theorem a3I {α:Type} {xs ys:List α} {i:Nat} {y:α} (h:(xs++ys)[i]?=some y):(i < xs.length∧y∈xs)∨∃ j,i=xs.length+j∧ys[j]?=some y:=by
  by_cases c:i < xs.length
  · rw [List.getElem?_append_left c] at h
    exact .inl ⟨c,List.mem_of_getElem? h⟩
  · rw [List.getElem?_append_right (by omega)] at h
    exact .inr ⟨i - xs.length,by omega,h⟩
theorem aa4 {α β:Type} {xs:List α} {f:α→β} {ys:List β} {j:Nat}:(xs.map f++ys)[xs.length+j]?=ys[j]?:=by
  rw [List.getElem?_append_right (by simp)]
  congr 1
  simp
theorem lW.cmp (Q:lW X S ex) {xs:List Str} {scope:Scope} {fl gv:List Bool} (h:u0 S xs scope fl gv=true) (C:Addr) (s:Shared) (H:Hp) (fp:List Addr) (pins:List (Addr×Obj)):lW (fW X xs scope C s H fp pins) (S.cmp xs fl gv) NoX:=by
  obtain ⟨h1,h2,h3,h4,h5,h8,h9⟩:=yH h
  refine ⟨by show xs++X.N=xs++S.N;rw [Q.N],a8A (N:=X.N) (iJ Q h) Q.nd,fun i y e1 e2=>?_,fun i y e1 e2=>?_,fun k y g e1=>?_,Q.hu,Q.cm,aeR,fun z=>nomatch z⟩
  · rcases a3I e1 with ⟨_,m⟩ | ⟨j,rfl,e1'⟩
    · obtain ⟨a1,a2,a3,a4⟩:=h3 y m
      exact ⟨.inl (lookup_relabel_local a1),a3,a4⟩
    · have e2':fl[j]?=some true:=aa4.symm.trans e2
      obtain ⟨a1,a2⟩:=h8 j y e1' e2'
      obtain ⟨_,b2,b3⟩:=Q.vis j y e1' a1
      refine ⟨?_,b2,b3⟩
      rcases lX (env:=X.env) a2 with z | ⟨_,z⟩
      · exact .inr (.inr z)
      · exact .inr (.inl z)
  · rcases a3I e1 with ⟨c,m⟩ | ⟨j,rfl,e1'⟩
    · have e2':(xs.map (fun _=>false)++fl)[i]?=some true:=e2
      rw [List.getElem?_append_left (by simpa using c)] at e2'
      simp at e2'
    · have e2':fl[j]?=some true:=aa4.symm.trans e2
      obtain ⟨a1,a2⟩:=h8 j y e1' e2'
      rcases lX (env:=X.env) a2 with z | ⟨_,z⟩
      · exact .inr z
      · exact .inl z
  · obtain ⟨b1,b2,b3,b4⟩:=Q.gm k y g e1
    refine ⟨fun e2=>?_,b2,b3,?_⟩
    · rcases lX (env:=X.env) (h9 k y g e1 e2) with z | ⟨z,_⟩
      · exact z
      · cases z
    · cases g <;> exact b4
theorem a6Z:∀ {es:List Expr} {xs:List Str},yG es=some xs→Two (fun e x=>∃ p,e=Expr.Name x p) es xs
  | [],xs,h=>by
    have:xs=[]:=by simpa [yG] using h.symm
    subst this;exact .nil
  | e :: es,xs,h=>by
    cases e with
    | Name x p =>
      have h':(yG es).map (x :: ·)=some xs:=h
      cases q:yG es with
      | none=>rw [q] at h';cases h'
      | some r =>
        rw [q] at h'
        have:xs=x :: r:=by simpa using h'.symm
        subst this
        exact .cons ⟨p,rfl⟩ (a6Z q)
    | _=>exact absurd (show (none:Option (List Str))=some xs from h) (fun z=>nomatch z)
theorem a70 (Q:lW X S ex) (h:vY S=true):Gl X "range" ∧ X.mg "range" = none:=by
  unfold vY at h
  obtain ⟨k,_,h⟩:=List.any_eq_true.mp h
  rw [Bool.and_eq_true] at h
  obtain ⟨hv,h⟩:=h
  split at h
  · rename_i y n e
    rw [Bool.and_eq_true] at h
    have:=beq_iff_eq.mp h.1
    subst this
    obtain ⟨g1,g2,g3,g4⟩:=Q.gl _ _ _ e (beq_iff_eq.mp hv)
    exact ⟨g1,g4.1⟩
  · exact absurd h (by decide)
theorem aa5 {e:Expr} {env:Env} (h:isSet e=false):∀ x,foldedSetIterable e env x=pure x:=by
  cases e <;> first | (intro _;rfl) | exact absurd (show true=false from h) (by decide)
end
end L4
namespace L4
open PySem PySem.Spec PyProof.Rows L2
theorem aY {P:Prop} (h:false=true):P:=absurd h (by decide)
theorem a71:∀ {ks:List Str} {keys:List (Option Expr)},a0A ks keys=true→keys.all (·.isSome)=true∧ks.length=keys.length
  | [],[],_=>⟨rfl,rfl⟩
  | [],_ :: _,h=>aY h
  | _ :: _,[],h=>aY h
  | k :: ks,none :: keys,h=>aY h
  | k :: ks,some e :: keys,h=>by
    cases e with
    | Constant c j p =>
      cases c with
      | str k' =>
        have h':(k == k'&&a0A ks keys)=true:=h
        rw [Bool.and_eq_true] at h'
        have z:=a71 h'.2
        exact ⟨by simpa using z.1,by simp [z.2]⟩
      | _=>exact aY h
    | _=>exact aY h
mutual
theorem nY {X:Cx} {S:SI} {ex:aN→aX} (Q:lW X S ex):∀ (c:CE) (e:Expr),kE S c e=true→cI X e (mE S.gl X.K ex c)
  | .tix k c,e,h=>by
    cases e with
    | Call f xs kws p =>
      cases f with
      | Attribute o n ap =>
        match o,xs,kws,h with
        | .Name x q,[y],[],h =>
          have h':(aoC S k x&&S.gv[k]? == some true&&n == ("index" : Str)&&!isStar y&&ap.endLine == p.line&&kE S c y)=true:=h
          simp only [Bool.and_eq_true,Bool.not_eq_true'] at h'
          obtain ⟨⟨⟨⟨⟨h1,h2⟩,h3⟩,h4⟩,h5⟩,h6⟩:=h'
          have e3:=beq_iff_eq.mp h3;subst e3
          unfold aoC at h1
          split at h1
          · rename_i nm ds hg
            have e1:=beq_iff_eq.mp h1;subst e1
            obtain ⟨g1,g2,g3,u,v,g4,g5,g6⟩:=Q.gl _ _ _ hg (beq_iff_eq.mp h2)
            show cI X _ (ao6 S.gl k _)
            unfold ao6
            rw [hg]
            exact at5 g1 g4 g5 g6 (nY Q c y h6) (bA h4) h5 g2
          · exact aY h1
      | _=>exact aY h
    | _=>exact aY h
  | .repl c y z,e,h=>by
    cases e with
    | Call f xs kws p =>
      cases f with
      | Attribute o n ap =>
        match xs,kws,h with
        | [.Constant (.str y') j1 p1,.Constant (.str z') j2 p2],[],h =>
          have h':(S.need&&n == ("replace" : Str)&&y' == y&&z' == z&&y != z&&dI o&&ap.endLine == p.line&&kE S c o)=true:=h
          simp only [Bool.and_eq_true] at h'
          obtain ⟨⟨⟨⟨⟨⟨⟨h1,h2⟩,h3⟩,h4⟩,h5⟩,h6⟩,h7⟩,h8⟩:=h'
          have e2:=beq_iff_eq.mp h2;subst e2
          have e3:=beq_iff_eq.mp h3;subst e3
          have e4:=beq_iff_eq.mp h4;subst e4
          exact ao1 (Q.nk h1) (by simpa using h5) (nY Q c o h8) (cP h6) h7
      | _=>exact aY h
    | _=>exact aY h
  | .a9Z ks es,e,h=>by
    cases e with
    | Dict keys values p =>
      have h':(a0A ks keys&&qX S es values&&keys.length == values.length&&decide (keys≠[]∧keys.length≤15))=true:=h
      simp only [Bool.and_eq_true] at h'
      obtain ⟨⟨⟨h1,h2⟩,h3⟩,h4⟩:=h'
      have e3:=beq_iff_eq.mp h3
      have e4:=of_decide_eq_true h4
      have hk:=a71 h1
      exact aiO Q.hu hk.1 e3 e4.1 e4.2 (by rw [hk.2];exact e4.2) (okD Q es ks keys values h2 h1 e3)
    | _=>exact aY h
  | .aa0 k a o c,e,h=>by
    cases e with
    | Call f xs kws p =>
      cases f with
      | Name x q =>
        match xs,kws,h with
        | [y,.Call (.Attribute oe n ap) [.Constant (.str c') j1 p1] [] cp],[],h =>
          have h':(aoD S k x&&S.gv[k]? == some true&&S.calm&&!isStar y&&kE S a y&&n == ("split" : Str)&&c' == c&&dI oe&&ap.endLine == cp.line&&kE S o oe)=true:=h
          simp only [Bool.and_eq_true,Bool.not_eq_true'] at h'
          obtain ⟨⟨⟨⟨⟨⟨⟨⟨⟨h1,h2⟩,h3⟩,h4⟩,h5⟩,h6⟩,h7⟩,h8⟩,h9⟩,h10⟩:=h'
          have e6:=beq_iff_eq.mp h6;subst e6
          have e7:=beq_iff_eq.mp h7;subst e7
          unfold aoD at h1
          split at h1
          · rename_i nm sp n hg
            have e1:=beq_iff_eq.mp h1;subst e1
            obtain ⟨g1,g2,g3,g4⟩:=Q.gl _ _ _ hg (beq_iff_eq.mp h2)
            obtain ⟨j,f,fd,ps,F,hr,hm,hkp,hb⟩:=g4 h3
            show cI X _ (mCP S.gl ex k _)
            unfold mCP
            rw [hg]
            exact aiS F hr g1 hm hkp hb Q.cat (aeK (nY Q a y h5) (aiQ (aiR PySem.F.plainAttrs_str PySem.F.slot_str_split PySem.F.type_str_split m_split (nY Q o oe h10) (cP h8) h9) rfl) (bA h4)) g2 (bA h4) rfl
          · exact aY h1
      | _=>exact aY h
    | _=>exact aY h
  | .fre i,e,h=>by
    cases e with
    | Name x p =>
      have h':(S.N[i]? == some x&&S.ce[i]? == some true&&x != ("__debug__" : Str)&&x != ("__classdict__" : Str))=true:=h
      simp only [Bool.and_eq_true] at h'
      have e1:=beq_iff_eq.mp h'.1.1.1
      have v:Vis X.env.scope x:=(Q.ce i x e1 (beq_iff_eq.mp h'.1.1.2)).elim (fun z => .inr (.inl z)) (fun z => .inr (.inr z))
      exact akJ i (by rw [Q.N];exact e1) v (beq_eq_false_iff_ne.mpr (bne_iff_ne.mp h'.1.2)) (beq_eq_false_iff_ne.mpr (bne_iff_ne.mp h'.2))
    | _=>exact aY h
  | .callC i k c cs,e,h=>by
    cases e with
    | Call f xs kws p =>
      cases f with
      | Name x q =>
        cases xs with
        | nil=>exact aY h
        | cons y ys =>
        cases kws with
        | cons _ _=>exact aY h
        | nil =>
          have h':(S.N[i]? == some x&&S.fl[i]? == some true&&S.calm&&aoB S k&&!isStar y&&kE S c y&&qX S cs ys)=true:=h
          simp only [Bool.and_eq_true,Bool.not_eq_true'] at h'
          obtain ⟨⟨⟨⟨⟨⟨h1,h2⟩,h3⟩,h4⟩,h5⟩,h6⟩,h7⟩:=h'
          have e1:=beq_iff_eq.mp h1
          obtain ⟨v1,v2,v3⟩:=Q.vis i x e1 (beq_iff_eq.mp h2)
          unfold aoB at h4
          split at h4
          · rename_i nm cl sp hg
            obtain ⟨_,_,_,h8⟩:=Q.gm k _ _ hg
            obtain ⟨j,C,hr⟩:=h8 h3
            show cI X _ (mCC S.gl i k (aA (mE S.gl X.K ex c) (mA S.gl X.K ex cs)))
            unfold mCC
            rw [hg]
            exact ahY C hr (Q.cm h3) (by rw [Q.N];exact e1) v1 v2 v3 (uQ (nY Q c y h6) (okA Q cs ys h7) (bA h5)) (bA h5) (oK h7)
          · exact aY h4
      | _=>exact aY h
    | _=>exact aY h
  | .var i,e,h=>by
    cases e with
    | Name x p =>
      have h':(S.N[i]? == some x&&S.fl[i]? == some true)=true:=h
      rw [Bool.and_eq_true] at h'
      have e1:=beq_iff_eq.mp h'.1
      obtain ⟨v1,v2,v3⟩:=Q.vis i x e1 (beq_iff_eq.mp h'.2)
      exact akJ i (by rw [Q.N];exact e1) v1 v2 v3
    | _=>exact aY h
  | .con d,e,h=>by
    cases e with
    | Constant c j p=>exact aoF h
    | _=>exact aY h
  | .glo k,e,h=>by
    cases e with
    | Name x p=>exact aoH Q h
    | _=>exact aY h
  | .neg a,e,h=>by
    cases e with
    | UnaryOp op x p =>
      cases op with
      | USub=>exact asG (nY Q a x h)
      | _=>exact aY h
    | _=>exact aY h
  | .aiU a,e,h=>by
    cases e with
    | UnaryOp op x p =>
      cases op with
      | Not=>exact arO (nY Q a x h)
      | _=>exact aY h
    | _=>exact aY h
  | .bin o a b,e,h=>by
    cases e with
    | BinOp x o' y p =>
      have h':(o == o'&&kE S a x&&kE S b y)=true:=h
      simp only [Bool.and_eq_true] at h'
      have:=beq_iff_eq.mp h'.1.1;subst this
      exact awA aiW (nY Q a x h'.1.2) (nY Q b y h'.2)
    | _=>exact aY h
  | .cmp o a b,e,h=>by
    cases e with
    | Compare x ops ys p =>
      match ops,ys,h with
      | [o'],[y],h =>
        have h':(o == o'&&!behindInMarks o' y&&kE S a x&&kE S b y)=true:=h
        simp only [Bool.and_eq_true,Bool.not_eq_true'] at h'
        have:=beq_iff_eq.mp h'.1.1.1;subst this
        exact arG (aa3 Q.hu) (nY Q a x h'.1.2) (nY Q b y h'.2) h'.1.1.2
      | [],_,h=>exact aY h
      | _ :: _ :: _,_,h=>exact aY h
      | [_],[],h=>exact aY h
      | [_],_ :: _ :: _,h=>exact aY h
    | _=>exact aY h
  | .abW es,e,h=>by
    cases e with
    | BoolOp op xs p =>
      cases op with
      | And=>exact al5 Q es xs p h
      | Or=>exact aY h
    | _=>exact aY h
  | .ifx c a b,e,h=>by
    cases e with
    | IfExp t x y p =>
      have h':(kT S c t&&kE S a x&&kE S b y)=true:=h
      simp only [Bool.and_eq_true] at h'
      exact ahO (okT Q c t h'.1.1) (nY Q a x h'.1.2) (nY Q b y h'.2)
    | _=>exact aY h
  | .tup es,e,h=>by
    cases e with
    | Tuple xs j p=>exact arP (okA Q es xs h)
    | _=>exact aY h
  | .lst es,e,h=>by
    cases e with
    | List xs p=>exact arQ (okA Q es xs h)
    | _=>exact aY h
  | .ix a b,e,h=>by
    cases e with
    | Subscript x y p =>
      have h':(!isSlice y&&kE S a x&&kE S b y)=true:=h
      simp only [Bool.and_eq_true,Bool.not_eq_true'] at h'
      exact awI (nY Q a x h'.1.2) (nY Q b y h'.2) (atD h'.1.1)
    | _=>exact aY h
  | .sl a lo hi,e,h=>by
    cases e with
    | Subscript x y p =>
      cases y with
      | Slice l u st q =>
        cases st with
        | none =>
          have h':(kE S a x&&kO S lo l&&kO S hi u)=true:=h
          simp only [Bool.and_eq_true] at h'
          exact ai4 (nY Q a x h'.1.1) (okO Q lo l h'.1.2) (okO Q hi u h'.2)
        | some _=>exact aY h
      | _=>exact aY h
    | _=>exact aY h
  | .call k es,e,h=>by
    cases e with
    | Call f xs kws p =>
      cases f with
      | Name x q =>
        cases kws with
        | nil =>
          have h':(qX S es xs&&S.gv[k]? == some true&&aa2 S k x (!xs.isEmpty))=true:=h
          simp only [Bool.and_eq_true] at h'
          exact aiY Q (okA Q es xs h'.1.1) h'.1.1 (beq_iff_eq.mp h'.1.2) h'.2
        | cons _ _=>exact aY h
      | _=>exact aY h
    | _=>exact aY h
  | .meth m o .nil,e,h=>by
    cases e with
    | Call f xs kws p =>
      cases f with
      | Attribute y n ap =>
        cases kws with
        | nil =>
          have h':(n == mkN m&&dI y&&ap.endLine == p.line&&decide (xs.length < 30)&&kE S o y&&qX S .nil xs)=true:=h
          simp only [Bool.and_eq_true] at h'
          obtain ⟨⟨⟨⟨⟨h1,h2⟩,h3⟩,h4⟩,h5⟩,h6⟩:=h'
          have:=beq_iff_eq.mp h1;subst this
          cases xs with
          | nil=>exact aiX (nY Q o y h5) h2 h3
          | cons _ _=>exact aY h6
        | cons _ _=>exact aY h
      | _=>exact aY h
    | _=>exact aY h
  | .meth m o (.cons c r),e,h=>by
    cases e with
    | Call f xs kws p =>
      cases f with
      | Attribute y n ap =>
        cases kws with
        | nil =>
          have h':(n == mkN m&&dI y&&ap.endLine == p.line&&decide (xs.length < 30)&&kE S o y&&qX S (.cons c r) xs)=true:=h
          simp only [Bool.and_eq_true] at h'
          obtain ⟨⟨⟨⟨⟨h1,h2⟩,h3⟩,h4⟩,h5⟩,h6⟩:=h'
          have:=beq_iff_eq.mp h1;subst this
          cases xs with
          | nil=>exact aY h6
          | cons x xs =>
            have h7:(!isStar x&&kE S c x&&qX S r xs)=true:=h6
            simp only [Bool.and_eq_true,Bool.not_eq_true'] at h7
            exact aeQ (nY Q o y h5) (uQ (nY Q c x h7.1.2) (okA Q r xs h7.2) (bA h7.1.1)) h2 h3 h6 (of_decide_eq_true h4)
        | cons _ _=>exact aY h
      | _=>exact aY h
    | _=>exact aY h
  | .comp fl gv ci cc c,e,h=>by
    cases e with
    | ListComp elt gens scope p =>
      cases gens with
      | nil=>exact aY h
      | cons g gr =>
        cases gr with
        | cons _ _=>obtain ⟨tg,it,ifs,a⟩:=g;cases tg <;> exact aY h
        | nil =>
          obtain ⟨tg,it,ifs,a⟩:=g
          cases tg with
          | Name x px =>
            have h':(a == 0&&u0 S [x] scope fl gv&&!isSet it&&kI S false ci it&&kC (S.cmp [x] fl gv) cc ifs&&kE (S.cmp [x] fl gv) c elt)=true:=h
            simp only [Bool.and_eq_true,Bool.not_eq_true'] at h'
            obtain ⟨⟨⟨⟨⟨h2,h3⟩,h4⟩,h5⟩,h6⟩,h7⟩:=h'
            have:=beq_iff_eq.mp h2;subst this
            exact a4Q (iJ Q h3) (fun C s H fp pins σ=>ae0 (iJ Q h3) Q.nd) a6Q (okI (tt:=false) Q (fun z=>nomatch z) ci it h5) (fun C s H fp pins=>okC (Q.cmp h3 C s H fp pins) cc ifs h6) (fun C s H fp pins=>nY (Q.cmp h3 C s H fp pins) c elt h7) (aa5 h4)
          | _=>exact aY h
    | _=>exact aY h
  | .aa1 n fl gv ci cc c,e,h=>by
    cases e with
    | ListComp elt gens scope p =>
      cases gens with
      | nil=>exact aY h
      | cons g gr =>
        cases gr with
        | cons _ _=>obtain ⟨tg,it,ifs,a⟩:=g;cases tg <;> exact aY h
        | nil =>
          obtain ⟨tg,it,ifs,a⟩:=g
          cases tg with
          | Tuple es k tp =>
            have h':(S.calm&&a == 0&&(match yG es with
              | some xs=>xs.length == n&&u0 S xs scope fl gv&&!isSet it&&kI S true ci it&&kC (S.cmp xs fl gv) cc ifs&&kE (S.cmp xs fl gv) c elt
              | none=>false))=true:=h
            rw [Bool.and_eq_true,Bool.and_eq_true] at h'
            obtain ⟨⟨h1,h2⟩,h'⟩:=h'
            have:=beq_iff_eq.mp h2;subst this
            cases q:yG es with
            | none=>rw [q] at h';exact aY h'
            | some xs =>
              rw [q] at h'
              simp only [Bool.and_eq_true,Bool.not_eq_true'] at h'
              obtain ⟨⟨⟨⟨⟨h0,h3⟩,h4⟩,h5⟩,h6⟩,h7⟩:=h'
              have:=beq_iff_eq.mp h0;subst this
              exact a4Q (iJ Q h3) (fun C s H fp pins σ=>anU (iJ Q h3) Q.nd (Q.cm h1) (a6Z q)) (fun d ds e=>(a9R e).2) (okI (tt:=true) Q (fun _=>⟨Q.cm h1,_,_,_,rfl⟩) ci it h5) (fun C s H fp pins=>okC (Q.cmp h3 C s H fp pins) cc ifs h6) (fun C s H fp pins=>nY (Q.cmp h3 C s H fp pins) c elt h7) (aa5 h4)
          | _=>exact aY h
    | _=>exact aY h
  | .dgt c d f,e,h=>by
    cases e with
    | Call g as ks p =>
      cases g with
      | Attribute y n ap =>
        match as,ks,h with
        | [],_,h=>exact aY h
        | [_],_,h=>exact aY h
        | _ :: _ :: _ :: _,_,h=>exact aY h
        | [_,_],_ :: _,h=>exact aY h
        | [x,z],[],h =>
          have h':(n == ("get" : Str)&&dI y&&ap.endLine == p.line&&!isStar x&&!isStar z&&kE S c y&&kE S d x&&kE S f z)=true:=h
          simp only [Bool.and_eq_true,Bool.not_eq_true'] at h'
          obtain ⟨⟨⟨⟨⟨⟨⟨h0,h1⟩,h2⟩,h3⟩,h4⟩,h5⟩,h6⟩,h7⟩:=h'
          have:=beq_iff_eq.mp h0;subst this
          have k2:qX S (.cons d (.cons f .nil)) [x,z]=true:=by
            show (!isStar x&&kE S d x&&(!isStar z&&kE S f z&&true))=true
            rw [h3,h4,h6,h7];rfl
          exact aiH Q.hu (nY Q c y h5) (nY Q d x h6) (nY Q f z h7) ⟨cP h1,rW (X:=X) (cp:=p) k2 (show 2 < 30 by decide),h2,by rw [bA h3,bA h4];rfl⟩
      | _=>exact aY h
    | _=>exact aY h
theorem okA {X:Cx} {S:SI} {ex:aN→aX} (Q:lW X S ex):∀ (c:CEs) (es:List Expr),qX S c es=true→PA3 X es (mA S.gl X.K ex c)
  | .nil,es,h=>by
    cases es with
    | nil=>exact a9H
    | cons _ _=>exact aY h
  | .cons c r,es,h=>by
    cases es with
    | nil=>exact aY h
    | cons x xs =>
      have h7:(!isStar x&&kE S c x&&qX S r xs)=true:=h
      simp only [Bool.and_eq_true,Bool.not_eq_true'] at h7
      exact uQ (nY Q c x h7.1.2) (okA Q r xs h7.2) (bA h7.1.1)
theorem al5 {X:Cx} {S:SI} {ex:aN→aX} (Q:lW X S ex):∀ (c:CEs) (es:List Expr) (p:Pos),qX S c es=true→cI X (.BoolOp .And es p) (ao7 S.gl X.K ex c)
  | .nil,es,p,h=>aeO
  | .cons c .nil,es,p,h=>by
    match es,h with
    | [],h=>exact aY h
    | [x],h =>
      have h7:(!isStar x&&kE S c x&&qX S .nil [])=true:=h
      simp only [Bool.and_eq_true,Bool.not_eq_true'] at h7
      exact akL (nY Q c x h7.1.2)
    | x :: y :: ys,h =>
      have h7:(!isStar x&&kE S c x&&qX S .nil (y :: ys))=true:=h
      simp only [Bool.and_eq_true,Bool.not_eq_true'] at h7
      exact aY h7.2
  | .cons c (.cons c' r),es,p,h=>by
    match es,h with
    | [],h=>exact aY h
    | [x],h =>
      have h7:(!isStar x&&kE S c x&&qX S (.cons c' r) [])=true:=h
      simp only [Bool.and_eq_true,Bool.not_eq_true'] at h7
      exact aY h7.2
    | x :: y :: ys,h =>
      have h7:(!isStar x&&kE S c x&&qX S (.cons c' r) (y :: ys))=true:=h
      simp only [Bool.and_eq_true,Bool.not_eq_true'] at h7
      exact arN (nY Q c x h7.1.2) (al5 Q (.cons c' r) (y :: ys) p h7.2)
theorem axL {X:Cx} {S:SI} {ex:aN→aX} (Q:lW X S ex):∀ (c:CEs) (es:List Expr) (p:Pos),qX S c es=true→cI X (.BoolOp .Or es p) (mOr S.gl X.K ex c)
  | .nil,es,p,h=>aeO
  | .cons c .nil,es,p,h=>by
    match es,h with
    | [],h=>exact aY h
    | [x],h =>
      have h7:(!isStar x&&kE S c x&&qX S .nil [])=true:=h
      simp only [Bool.and_eq_true,Bool.not_eq_true'] at h7
      exact akL (nY Q c x h7.1.2)
    | x :: y :: ys,h =>
      have h7:(!isStar x&&kE S c x&&qX S .nil (y :: ys))=true:=h
      simp only [Bool.and_eq_true,Bool.not_eq_true'] at h7
      exact aY h7.2
  | .cons c (.cons c' r),es,p,h=>by
    match es,h with
    | [],h=>exact aY h
    | [x],h =>
      have h7:(!isStar x&&kE S c x&&qX S (.cons c' r) [])=true:=h
      simp only [Bool.and_eq_true,Bool.not_eq_true'] at h7
      exact aY h7.2
    | x :: y :: ys,h =>
      have h7:(!isStar x&&kE S c x&&qX S (.cons c' r) (y :: ys))=true:=h
      simp only [Bool.and_eq_true,Bool.not_eq_true'] at h7
      exact awC (nY Q c x h7.1.2) (axL Q (.cons c' r) (y :: ys) p h7.2)
theorem okT {X:Cx} {S:SI} {ex:aN→aX} (Q:lW X S ex):∀ (c:CT) (e:Expr),kT S c e=true→PT3 X e (mT S.gl X.K ex c)
  | .cmp o a b,e,h=>by
    cases e with
    | Compare x ops ys p =>
      match ops,ys,h with
      | [o'],[y],h =>
        have h':(o == o'&&!behindInMarks o' y&&kE S a x&&kE S b y)=true:=h
        simp only [Bool.and_eq_true,Bool.not_eq_true'] at h'
        have:=beq_iff_eq.mp h'.1.1.1;subst this
        exact arH (aa3 Q.hu) (nY Q a x h'.1.2) (nY Q b y h'.2) h'.1.1.2
      | [],_,h=>exact aY h
      | _ :: _ :: _,_,h=>exact aY h
      | [_],[],h=>exact aY h
      | [_],_ :: _ :: _,h=>exact aY h
    | _=>exact aY h
  | .not t,e,h=>by
    cases e with
    | UnaryOp op x p =>
      cases op with
      | Not=>exact arM (okT Q t x h)
      | _=>exact aY h
    | _=>exact aY h
  | .and ts,e,h=>by
    cases e with
    | BoolOp op xs p =>
      cases op with
      | And=>exact PW.pt (aeS Q ts xs p h)
      | Or=>exact aY h
    | _=>exact aY h
  | .or ts,e,h=>by
    cases e with
    | BoolOp op xs p =>
      cases op with
      | Or=>exact PW.pt (al7 Q ts xs p h)
      | And=>exact aY h
    | _=>exact aY h
  | .val c,e,h=>by
    have h':(plainT e&&kE S c e)=true:=h
    rw [Bool.and_eq_true] at h'
    exact arI (nY Q c e h'.2) (aoG h'.1)
theorem aeS {X:Cx} {S:SI} {ex:aN→aX} (Q:lW X S ex):∀ (c:CTs) (es:List Expr) (p:Pos),kTs S c es=true→PW3 X (.BoolOp .And es p) (aeM S.gl X.K ex c)
  | .nil,es,p,h=>fun _ _ _ _ _ _ _ ⟨_,_,_,_,_,z,_⟩=>z.elim
  | .cons c .nil,es,p,h=>by
    match es,h with
    | [],h=>exact aY h
    | [x],h =>
      have h7:(kT S c x&&kTs S .nil [])=true:=h
      simp only [Bool.and_eq_true] at h7
      exact amU (okT Q c x h7.1)
    | x :: y :: ys,h =>
      have h7:(kT S c x&&kTs S .nil (y :: ys))=true:=h
      simp only [Bool.and_eq_true] at h7
      exact aY h7.2
  | .cons c (.cons c' r),es,p,h=>by
    match es,h with
    | [],h=>exact aY h
    | [x],h =>
      have h7:(kT S c x&&kTs S (.cons c' r) [])=true:=h
      simp only [Bool.and_eq_true] at h7
      exact aY h7.2
    | x :: y :: ys,h =>
      have h7:(kT S c x&&kTs S (.cons c' r) (y :: ys))=true:=h
      simp only [Bool.and_eq_true] at h7
      exact arL (okT Q c x h7.1) (aeS Q (.cons c' r) (y :: ys) p h7.2)
theorem al7 {X:Cx} {S:SI} {ex:aN→aX} (Q:lW X S ex):∀ (c:CTs) (es:List Expr) (p:Pos),kTs S c es=true→PW3 X (.BoolOp .Or es p) (ao8 S.gl X.K ex c)
  | .nil,es,p,h=>fun _ _ _ _ _ _ _ ⟨_,_,_,_,_,z,_⟩=>z.elim
  | .cons c .nil,es,p,h=>by
    match es,h with
    | [],h=>exact aY h
    | [x],h =>
      have h7:(kT S c x&&kTs S .nil [])=true:=h
      simp only [Bool.and_eq_true] at h7
      exact arK (okT Q c x h7.1)
    | x :: y :: ys,h =>
      have h7:(kT S c x&&kTs S .nil (y :: ys))=true:=h
      simp only [Bool.and_eq_true] at h7
      exact aY h7.2
  | .cons c (.cons c' r),es,p,h=>by
    match es,h with
    | [],h=>exact aY h
    | [x],h =>
      have h7:(kT S c x&&kTs S (.cons c' r) [])=true:=h
      simp only [Bool.and_eq_true] at h7
      exact aY h7.2
    | x :: y :: ys,h =>
      have h7:(kT S c x&&kTs S (.cons c' r) (y :: ys))=true:=h
      simp only [Bool.and_eq_true] at h7
      exact awB (okT Q c x h7.1) (al7 Q (.cons c' r) (y :: ys) p h7.2)
theorem okO {X:Cx} {S:SI} {ex:aN→aX} (Q:lW X S ex):∀ (c:CO) (e:Option Expr),kO S c e=true→PO3 X e (mO S.gl X.K ex c)
  | .none,e,h=>by
    cases e with
    | none=>exact amZ
    | some _=>exact aY h
  | .some c,e,h=>by
    cases e with
    | none=>exact aY h
    | some x=>exact an0 (nY Q c x h)
theorem okI {X:Cx} {S:SI} {ex:aN→aX} (Q:lW X S ex) {tg:Expr} {tt:Bool} (htt:tt=true→X.calm=true∧∃ es kt pt,tg = .Tuple es kt pt):∀ (c:CI) (e:Expr),kI S tt c e=true→PI3 X tg e (mI S.gl X.K ex c)
  | .any c,e,h=>asL (nY Q c e h)
  | .abX c,e,h=>by
    cases e with
    | Call f as ks p =>
      cases f with
      | Name r q =>
        cases as with
        | nil=>exact aY h
        | cons y yr =>
          cases yr with
          | cons _ _=>exact aY h
          | nil =>
            cases ks with
            | cons _ _=>exact aY h
            | nil =>
              have h':(r == ("range" : Str)&&vY S&&!isStar y&&kE S c y)=true:=h
              simp only [Bool.and_eq_true,Bool.not_eq_true'] at h'
              obtain ⟨⟨⟨h1,h2⟩,h3⟩,h4⟩:=h'
              have:=beq_iff_eq.mp h1;subst this
              obtain ⟨g1,g2⟩:=a70 Q h2
              exact anP g1 g2 (uQ (nY Q c y h4) a9H (bA h3)) (bA h3)
      | _=>exact aY h
    | _=>exact aY h
theorem okD {X:Cx} {S:SI} {ex:aN→aX} (Q:lW X S ex) {pos:Pos}:∀ (cs:CEs) (ks:List Str) (keys:List (Option Expr)) (vs:List Expr),qX S cs vs=true→a0A ks keys=true→keys.length=vs.length→PDs X pos keys vs ks (mA S.gl X.K ex cs)
  | .nil,ks,keys,vs,h,h2,h3=>by
    cases vs with
    | cons _ _=>exact aY h
    | nil =>
    cases keys with
    | cons _ _=>cases h3
    | nil =>
    cases ks with
    | cons _ _=>exact aY h2
    | nil=>exact aiN
  | .cons c cs,ks,keys,vs,h,h2,h3=>by
    cases vs with
    | nil=>exact aY h
    | cons v vs =>
    have h':(!isStar v&&kE S c v&&qX S cs vs)=true:=h
    simp only [Bool.and_eq_true] at h'
    cases keys with
    | nil=>cases h3
    | cons ke keys =>
    cases ks with
    | nil=>exact aY h2
    | cons k ks =>
    cases ke with
    | none=>exact aY h2
    | some e =>
    cases e with
    | Constant cc j p =>
      cases cc with
      | str k' =>
        have h2':(k == k'&&a0A ks keys)=true:=h2
        rw [Bool.and_eq_true] at h2'
        have e0:=beq_iff_eq.mp h2'.1
        subst e0
        exact aeI (nY Q c v h'.1.2) (okD Q cs ks keys vs h'.2 h2'.2 (Nat.succ.inj h3))
      | _=>exact aY h2
    | _=>exact aY h2
theorem okC {X:Cx} {S:SI} (Q:lW X S NoX):∀ (c:CC) (es:List Expr),kC S c es=true→abO X es (mC S.gl X.K c)
  | .none,es,h=>by
    cases es with
    | nil=>exact ai8
    | cons _ _=>exact aY h
  | .some t,es,h=>by
    match es,h with
    | [],h=>exact aY h
    | [x],h=>exact ai9 (okT Q t x h)
    | _ :: _ :: _,h=>exact aY h
end
end L4
namespace L4
open PySem PySem.Spec PyProof.Rows L2
inductive CTg where
  | nm (i:Nat) | tup (is:List Nat)
mutual
inductive CS where
  | ret (e:CE) | expr (e:CE) | ifs (t:CT) (a b:CB) | set (i:Nat) (e:CE)
  | raise (k:Nat) (e:CE) (es:CEs) | aiZ (k i:Nat) (b h:CB) | pass
  | setC (i:Nat) (fl gv:List Bool) (ci:CI) (cc:CC) (e:CE) | a8G (ci:CI) (tg:CTg) (b:CB)
inductive CB where
  | nil | cons (s:CS) (r:CB)
end
def al8:bK:=fun _ _ _=>False
abbrev SI.han (S:SI):SI:={ S with calm:=false,need:=false }
def mIS (T:List (Str×GT)) (K:Fg) (ex:aN→aX):CI→TI3
  | .any e=>a8B (mE T K ex e)
  | .abX e=>xB (aA (mE T K ex e) aC)
def mG:CTg→TG3
  | .nm i=>rQ i
  | .tup is=>akW is
def aj0 (T:List (Str×GT)) (ex:aN→aX) (k:Nat) (t:n6):bK:=match T[k]? with
  | some (_,.cls a)=>tH ex a t
  | _=>al8
def aj1 (T:List (Str×GT)) (K:Fg) (k i:Nat) (tb:(aN→aX)→bK) (th:bK):bK:=match T[k]? with
  | some (_,.cls a)=>a6G K a i tb th
  | _=>al8
def a3J (S:SI) (k:Nat) (x:Str):Bool:=match S.gl[k]? with
  | some (z,.cls _)=>z == x
  | _=>false
mutual
def mS (T:List (Str×GT)) (K:Fg) (ex:aN→aX):CS→bK
  | .ret e=>bU (mE T K ex e)
  | .expr e=>uR (mE T K ex e)
  | .ifs t a b=>dH (mT T K ex t) (mB T K ex a) (mB T K ex b)
  | .set i e=>bJ i (mE T K ex e)
  | .raise k e es=>aj0 T ex k (aA (mE T K ex e) (mA T K ex es))
  | .aiZ k i b h=>aj1 T K k i (fun EX2=>mB T K EX2 b) (mB T K NoX h)
  | .setC i _ _ ci cc e=>bJ i (a05 (mI T K ex ci) (mC T K cc) (mE T K NoX e))
  | .a8G ci tg b=>rR (mIS T K ex ci) (mG tg) (mB T K ex b)
  | .pass=>bQ
def mB (T:List (Str×GT)) (K:Fg) (ex:aN→aX):CB→bK
  | .nil=>bQ
  | .cons s .nil=>mS T K ex s
  | .cons s (.cons s' r)=>aO (mS T K ex s) (mB T K ex (.cons s' r))
end
def isTup:Expr→Bool
  | .Tuple ..=>true
  | _=>false
def a0B:Expr→Bool
  | .ListComp ..=>true
  | .SetComp ..=>true
  | .DictComp ..=>true
  | _=>false
def kTg (S:SI):CTg→Expr→Bool
  | .nm i,.Name x _=>S.N[i]? == some x&&S.fl[i]? == some true
  | .tup is,.Tuple es _ _=>kNs S is es
  | _,_=>false
where
  kNs (S:SI):List Nat→List Expr→Bool
  | [],[]=>true
  | i :: is,.Name x _ :: es=>S.N[i]? == some x&&S.fl[i]? == some true&&kNs S is es
  | _,_=>false
def aoJ (S:SI):CTg→Bool
  | .nm _=>true
  | .tup _=>S.calm
mutual
def kS (S:SI) (lv:Nat):CS→Stmt→Bool
  | .ret e,.Return (some x) _=>kE S e x
  | .expr e,.Expr x _=>!a0B x&&kE S e x
  | .ifs t a b,.If x y z _=>kT S t x&&kB S lv a y&&kB S lv b z
  | .set i e,.Assign [.Name x _] y _=>S.N[i]? == some x&&S.fl[i]? == some true&&!a0B y&&kE S e y
  | .raise k e es,.Raise (some (.Call (.Name x _) (y :: ys) [] _)) none _=>lv == 0&&S.calm&&!isStar y&&kE S e y&&qX S es ys&&S.gv[k]? == some true&&a3J S k x
  | .aiZ k i b h,.Try y [.ExceptHandler (some (.Name x _)) (some n) (z :: zs) _] [] [] _=>lv == 0&&S.calm&&S.N[i]? == some n&&S.lc[i]? == some true&&kB S 1 b y&&kB S.han 2 h (z :: zs)&&S.gv[k]? == some true&&a3J S k x
  | .setC i fl gv ci cc e,.Assign [.Name y _] (.ListComp elt [⟨.Name x _,iter,ifs,a⟩] scope _) _=>S.N[i]? == some y&&S.fl[i]? == some true&&a == 0&&u0 S [x] scope fl gv&&!isSet iter&&kI S false ci iter&&kC (S.cmp [x] fl gv) cc ifs&&kE (S.cmp [x] fl gv) e elt
  | .a8G ci tg b,.For tgt iter body [] _=>lv != 1&&aoJ S tg&&!isSet iter&&kTg S tg tgt&&kI S (isTup tgt&&S.calm) ci iter&&kB S lv b body
  | .pass,.Pass _=>true
  | _,_=>false
def kB (S:SI) (lv:Nat):CB→List Stmt→Bool
  | .nil,[]=>true
  | .cons s r,x :: xs=>kS S lv s x&&kB S lv r xs
  | _,_=>false
end
structure a0C (X:Cx) (S:SI) (ex:aN→aX) (lv:Nat):Prop where
  si:lW X S ex
  loc:∀ (i:Nat) (x:Str),S.N[i]?=some x→S.fl[i]?=some true→Loc X.env.scope x
  lcl:∀ (i:Nat) (x:Str),S.N[i]?=some x→S.lc[i]?=some true→X.env.kindOf x=some .local
  fn:∀ (i:Nat) (x:Str),S.N[i]?=some x→S.fl[i]?=some true→X.fn x=true
  cls:∀ (k:Nat) (x:Str) (a:Addr),S.gl[k]?=some (x,.cls a)→S.gv[k]?=some true→PySem.W.excIn X.K a BMv "ValueError.__new__" = true∧(PySem.W.clsIn X.K a).isSome=true∧PySem.W.typeIn X.K (.ref a)=some (.type "type")∧PySem.W.subIn X.K (.ref a) (.type "BaseException")=some true
  l0:lv≠1→PassesOwn (model X.prog X.w) X.A X.env X.xe
  rz:lv=0→S.calm=true→Thr X ex
  stk:X.stack=X.env :: X.outer
  frm:X.env.frame=some X.env.locals
theorem al9 {e:Expr} {t:Option Expr} {n:Nat} {env:Env} (h:a0B e=false):swapsWith e t n env=pure false:=by
  cases e <;> first | rfl | exact absurd (show true=false from h) (by decide)
theorem a0C.tr {X:Cx} {S:SI} {ex:aN→aX} {lv:Nat} (Q:a0C X S ex lv) (pn:List (Addr×Obj)) (EX:aN→aX):a0C (ahZ X pn EX) S EX 1 where
  si:=⟨Q.si.N,Q.si.nd,Q.si.vis,Q.si.ce,fun k x g h=>by
    obtain ⟨h1,h2,h3,h4⟩:=Q.si.gm k x g h
    refine ⟨h1,h2,h3,?_⟩
    cases g <;> exact h4,Q.si.hu,Q.si.cm,awN pn EX,Q.si.nk⟩
  loc:=Q.loc
  lcl:=Q.lcl
  fn:=Q.fn
  cls:=Q.cls
  l0:=fun z=>absurd rfl z
  rz:=fun z=>absurd z (by decide)
  stk:=Q.stk
  frm:=Q.frm
theorem a0C.ha {X:Cx} {S:SI} {ex:aN→aX} {lv:Nat} (Q:a0C X S ex lv) (x:Addr):a0C (abL X x) S.han NoX 2 where
  si:=⟨Q.si.N,Q.si.nd,Q.si.vis,Q.si.ce,fun k y g h=>by
    obtain ⟨h1,h2,h3,h4⟩:=Q.si.gm k y g h
    refine ⟨h1,h2,h3,?_⟩
    cases g with
    | fn sp n qt =>
      intro z
      have hq:qt=true:=z.resolve_right (show ¬ (false=true) by decide)
      subst hq
      obtain ⟨k,f,fd,ps,F,hr,r⟩:=h4 (.inl rfl)
      exact ⟨k,f,fd,ps,F,⟨(fun z=>nomatch z),hr.dp,hr.un⟩,r⟩
    | kl C sp dd=>exact fun z=>nomatch z
    | me C m sp dd=>exact fun z=>nomatch z
    | clo c sp=>exact fun z=>nomatch z
    | fnP sp n=>exact fun z=>nomatch z
    | _=>exact h4,Q.si.hu,fun z=>absurd (show false=true from z) (by decide),aeR,fun z=>nomatch z⟩
  loc:=Q.loc
  lcl:=Q.lcl
  fn:=Q.fn
  cls:=Q.cls
  l0:=fun _=>PassesOwn.never
  rz:=fun z=>absurd z (by decide)
  stk:=Q.stk
  frm:=Q.frm
theorem a72 {S:SI} {k:Nat} {x:Str} (h:a3J S k x=true):∃ a,S.gl[k]?=some (x,.cls a):=by
  unfold a3J at h
  split at h
  · rename_i z a hg
    have:=beq_iff_eq.mp h;subst this
    exact ⟨a,hg⟩
  · exact aY h
theorem aj2 {T:List (Str×GT)} {ex:aN→aX} {k:Nat} {x:Str} {a:Addr} {t:n6} (h:T[k]?=some (x,.cls a)):aj0 T ex k t=tH ex a t:=by unfold aj0;rw [h]
theorem aj3 {T:List (Str×GT)} {K:Fg} {k i:Nat} {x:Str} {a:Addr} {tb:(aN→aX)→bK} {th:bK} (h:T[k]?=some (x,.cls a)):aj1 T K k i tb th=a6G K a i tb th:=by unfold aj1;rw [h]
theorem aeT {X:Cx} {S:SI} {ex:aN→aX} {lv:Nat} (Q:a0C X S ex lv) {k:Nat} {e:CE} {es:CEs} {x:Str} {y:Expr} {ys:List Expr} {np cp pos:Pos} (h:kS S lv (.raise k e es) (.Raise (some (.Call (.Name x np) (y :: ys) [] cp)) none pos)=true) :
    PS3 X (.Raise (some (.Call (.Name x np) (y :: ys) [] cp)) none pos) (aj0 S.gl ex k (aA (mE S.gl X.K ex e) (mA S.gl X.K ex es))):=by
  have h':(lv == 0&&S.calm&&!isStar y&&kE S e y&&qX S es ys&&S.gv[k]? == some true&&a3J S k x)=true:=h
  simp only [Bool.and_eq_true,Bool.not_eq_true'] at h'
  obtain ⟨⟨⟨⟨⟨⟨h0,hcm⟩,h1⟩,h2⟩,h3⟩,hv⟩,h⟩:=h'
  have hv:=beq_iff_eq.mp hv
  obtain ⟨a,hg⟩:=a72 h
  rw [aj2 hg]
  have l1:=Q.si.cm hcm
  have l2:=Q.rz (beq_iff_eq.mp h0) hcm
  obtain ⟨g1,g2,g3,g4,g5⟩:=Q.si.gl _ _ _ hg hv
  exact ahV l1 PySem.F.excBase_ValueError (by decide) PySem.F.excBase_ValueError g1 g4 (Q.cls _ _ _ hg hv).1 l2 (uQ (nY Q.si e y h2) (okA Q.si es ys h3) (bA h1)) g2 (bA h1) (oK h3)
theorem aeU {X:Cx} {S:SI} {ex:aN→aX} {lv:Nat} (Q:a0C X S ex lv):∀ {is:List Nat} {es:List Expr},kTg.kNs S is es=true→Two (aiD X) es is
  | [],[],_ => .nil
  | [],_ :: _,h=>by exact aY h
  | _ :: _,[],h=>by exact aY h
  | i :: is,e :: es,h=>by
    cases e with
    | Name x p =>
      have h':(S.N[i]? == some x&&S.fl[i]? == some true&&kTg.kNs S is es)=true:=h
      simp only [Bool.and_eq_true] at h'
      have e1:=beq_iff_eq.mp h'.1.1
      exact .cons ⟨x,p,rfl,by rw [Q.si.N];exact e1,Q.loc i x e1 (beq_iff_eq.mp h'.1.2),.inl (Q.fn i x e1 (beq_iff_eq.mp h'.1.2))⟩ (aeU Q h'.2)
    | _=>exact aY h
theorem atL {X:Cx} {S:SI} {ex:aN→aX} {lv:Nat} (Q:a0C X S ex lv):∀ {c:CTg} {e:Expr},aoJ S c=true→kTg S c e=true→PG3 X e (mG c)
  | .nm i,e,_,h=>by
    cases e with
    | Name x p =>
      have h':(S.N[i]? == some x&&S.fl[i]? == some true)=true:=h
      simp only [Bool.and_eq_true] at h'
      have e1:=beq_iff_eq.mp h'.1
      exact anS Q.si.nd (by rw [Q.si.N];exact e1) (Q.loc i x e1 (beq_iff_eq.mp h'.2)) (.inl (Q.fn i x e1 (beq_iff_eq.mp h'.2)))
    | _=>exact aY h
  | .tup is,e,hc,h=>by
    cases e with
    | Tuple es k p=>exact asR Q.si.nd (Q.si.cm hc) (aeU Q h)
    | _=>exact aY h
theorem axM {X:Cx} {S:SI} {ex:aN→aX} (Q:lW X S ex) {tg:Expr} {tt:Bool} (htt:tt=true→X.calm=true∧∃ es kt pt,tg = .Tuple es kt pt):∀ (c:CI) (e:Expr),kI S tt c e=true→PIS X tg e (mIS S.gl X.K ex c)
  | .any c,e,h=>anV (nY Q c e h)
  | .abX c,e,h=>by
    cases e with
    | Call f as ks p =>
      cases f with
      | Name r q =>
        cases as with
        | nil=>exact aY h
        | cons y yr =>
          cases yr with
          | cons _ _=>exact aY h
          | nil =>
            cases ks with
            | cons _ _=>exact aY h
            | nil =>
              have h':(r == ("range" : Str)&&vY S&&!isStar y&&kE S c y)=true:=h
              simp only [Bool.and_eq_true,Bool.not_eq_true'] at h'
              obtain ⟨⟨⟨h1,h2⟩,h3⟩,h4⟩:=h'
              have:=beq_iff_eq.mp h1;subst this
              obtain ⟨g1,g2⟩:=a70 Q h2
              exact aiF g1 g2 (uQ (nY Q c y h4) a9H (bA h3)) (bA h3)
      | _=>exact aY h
    | _=>exact aY h
theorem aeV {e:Expr} (h:isTup e=true):∃ es kt pt,e = .Tuple es kt pt:=by
  cases e <;> first | exact ⟨_,_,_,rfl⟩ | exact aY h
mutual
theorem okS:∀ (c:CS) {X:Cx} {S:SI} {ex:aN→aX} {lv:Nat},a0C X S ex lv→∀ (st:Stmt),kS S lv c st=true→PS3 X st (mS S.gl X.K ex c)
  | .ret e,X,S,ex,lv,Q,st,h=>by
    cases st with
    | Return v p =>
      cases v with
      | some x=>exact as6 (nY Q.si e x h)
      | none=>exact aY h
    | _=>exact aY h
  | .expr e,X,S,ex,lv,Q,st,h=>by
    cases st with
    | Expr x p =>
      have h':(!a0B x&&kE S e x)=true:=h
      simp only [Bool.and_eq_true,Bool.not_eq_true'] at h'
      exact an4 (nY Q.si e x h'.2) (al9 h'.1)
    | _=>exact aY h
  | .ifs t a b,X,S,ex,lv,Q,st,h=>by
    cases st with
    | If x y z p =>
      have h':(kT S t x&&kB S lv a y&&kB S lv b z)=true:=h
      simp only [Bool.and_eq_true] at h'
      exact awJ (okT Q.si t x h'.1.1) (okB a Q y h'.1.2) (okB b Q z h'.2)
    | _=>exact aY h
  | .set i e,X,S,ex,lv,Q,st,h=>by
    cases st with
    | Assign ts y p =>
      cases ts with
      | nil=>exact aY h
      | cons t r =>
        cases r with
        | cons _ _=>cases t <;> exact aY h
        | nil =>
          cases t with
          | Name x q =>
            have h':(S.N[i]? == some x&&S.fl[i]? == some true&&!a0B y&&kE S e y)=true:=h
            simp only [Bool.and_eq_true,Bool.not_eq_true'] at h'
            have e1:=beq_iff_eq.mp h'.1.1.1
            exact akO (i:=i) Q.si.nd (by rw [Q.si.N];exact e1) (Q.loc i x e1 (beq_iff_eq.mp h'.1.1.2)) (nY Q.si e y h'.2) (al9 h'.1.2) (.inl (Q.fn i x e1 (beq_iff_eq.mp h'.1.1.2)))
          | _=>exact aY h
    | _=>exact aY h
  | .raise k e es,X,S,ex,lv,Q,st,h=>by
    cases st with
    | Raise a b p =>
      cases a with
      | none=>exact aY h
      | some a =>
        cases a with
        | Call f as ks q =>
          cases f with
          | Name x np =>
            cases as with
            | nil=>exact aY h
            | cons y ys =>
              cases ks with
              | cons _ _=>exact aY h
              | nil =>
                cases b with
                | some _=>exact aY h
                | none=>exact aeT Q h
          | _=>exact aY h
        | _=>exact aY h
    | _=>exact aY h
  | .aiZ k i b hb,X,S,ex,lv,Q,st,h=>by
    cases st with
    | Try y hs el fin p =>
      cases hs with
      | nil=>exact aY h
      | cons hd tl =>
        obtain ⟨ty,nm,suite,hp⟩:=hd
        cases tl with
        | cons _ _=>cases ty <;> first | exact aY h | (rename_i ty;cases ty <;> cases nm <;> cases suite <;> exact aY h)
        | nil =>
          cases ty with
          | none=>exact aY h
          | some ty =>
            cases ty with
            | Name x cp =>
              cases nm with
              | none=>exact aY h
              | some n =>
                cases suite with
                | nil=>exact aY h
                | cons z zs =>
                  cases el with
                  | cons _ _=>exact aY h
                  | nil =>
                    cases fin with
                    | cons _ _=>exact aY h
                    | nil =>
                      have h':(lv == 0&&S.calm&&S.N[i]? == some n&&S.lc[i]? == some true&&kB S 1 b y&&kB S.han 2 hb (z :: zs)&&S.gv[k]? == some true&&a3J S k x)=true:=h
                      simp only [Bool.and_eq_true] at h'
                      obtain ⟨⟨⟨⟨⟨⟨⟨h0,hcm⟩,h1⟩,h2⟩,h3⟩,h4⟩,hv⟩,h⟩:=h'
                      have hv:=beq_iff_eq.mp hv
                      obtain ⟨a,hg⟩:=a72 h
                      show PS3 X _ (aj1 S.gl X.K k i (fun EX2=>mB S.gl X.K EX2 b) (mB S.gl X.K NoX hb))
                      rw [aj3 hg]
                      have e1:=beq_iff_eq.mp h1
                      obtain ⟨g1,g2,g3,g4,g5⟩:=Q.si.gl _ _ _ hg hv
                      obtain ⟨c1,c2,c3,c4⟩:=Q.cls _ _ _ hg hv
                      exact asD (i:=i) (Q.si.cm hcm) Q.si.nd (by rw [Q.si.N];exact e1) (Q.lcl i n e1 (beq_iff_eq.mp h2)) Q.stk Q.frm g1 g4 c2 c3 c4 (fun pn EX=>okB b (Q.tr pn EX) y h3) (fun xx=>okB hb (Q.ha xx) (z :: zs) h4) g2
            | _=>exact aY h
    | _=>exact aY h
  | .setC i fl gv ci cc c,X,S,ex,lv,Q,st,h=>by
    cases st with
    | Assign ts z p =>
      cases ts with
      | nil=>exact aY h
      | cons t r =>
        cases r with
        | cons _ _=>cases t <;> exact aY h
        | nil =>
          cases t with
          | Name y q =>
            cases z with
            | ListComp elt gens scope pp =>
              cases gens with
              | nil=>exact aY h
              | cons g gr =>
                cases gr with
                | cons _ _=>obtain ⟨tg,it,ifs,a⟩:=g;cases tg <;> exact aY h
                | nil =>
                  obtain ⟨tg,it,ifs,a⟩:=g
                  cases tg with
                  | Name x px =>
                    have h':(S.N[i]? == some y&&S.fl[i]? == some true&&a == 0&&u0 S [x] scope fl gv&&!isSet it&&kI S false ci it&&kC (S.cmp [x] fl gv) cc ifs&&kE (S.cmp [x] fl gv) c elt)=true:=h
                    simp only [Bool.and_eq_true,Bool.not_eq_true'] at h'
                    obtain ⟨⟨⟨⟨⟨⟨⟨hy,hy2⟩,h2⟩,h3⟩,h4⟩,h5⟩,h6⟩,h7⟩:=h'
                    have:=beq_iff_eq.mp h2;subst this
                    have e1:=beq_iff_eq.mp hy
                    exact aiC (i:=i) (iJ Q.si h3) (fun C s H fp pins σ=>ae0 (iJ Q.si h3) Q.si.nd) a6Q Q.si.nd (by rw [Q.si.N];exact e1) (Q.loc i y e1 (beq_iff_eq.mp hy2)) (Q.fn i y e1 (beq_iff_eq.mp hy2)) (okI (tt:=false) Q.si (fun z=>nomatch z) ci it h5) (fun C s H fp pins=>okC (Q.si.cmp h3 C s H fp pins) cc ifs h6) (fun C s H fp pins=>nY (Q.si.cmp h3 C s H fp pins) c elt h7) (aa5 h4)
                  | _=>exact aY h
            | _=>exact aY h
          | _=>exact aY h
    | _=>exact aY h
  | .a8G ci tg b,X,S,ex,lv,Q,st,h=>by
    cases st with
    | For tgt it body el p =>
      cases el with
      | cons _ _=>exact aY h
      | nil =>
        have h':(lv != 1&&aoJ S tg&&!isSet it&&kTg S tg tgt&&kI S (isTup tgt&&S.calm) ci it&&kB S lv b body)=true:=h
        simp only [Bool.and_eq_true,Bool.not_eq_true'] at h'
        obtain ⟨⟨⟨⟨⟨h1,hg⟩,h2⟩,h3⟩,h4⟩,h5⟩:=h'
        exact anW (Q.l0 (bne_iff_ne.mp h1)) (axM Q.si (fun z=>by rw [Bool.and_eq_true] at z;exact ⟨Q.si.cm z.2,aeV z.1⟩) ci it h4) (atL Q hg h3) (okB b Q body h5) (aa5 h2)
    | _=>exact aY h
  | .pass,X,S,ex,lv,Q,st,h=>by
    cases st with
    | Pass _=>exact an3
    | _=>exact aY h
theorem okB:∀ (c:CB) {X:Cx} {S:SI} {ex:aN→aX} {lv:Nat},a0C X S ex lv→∀ (st:List Stmt),kB S lv c st=true→uN X st (mB S.gl X.K ex c)
  | .nil,X,S,ex,lv,Q,st,h=>by
    cases st with
    | nil=>exact as4
    | cons _ _=>exact aY h
  | .cons s .nil,X,S,ex,lv,Q,st,h=>by
    match st,h with
    | [],h=>exact aY h
    | [x],h =>
      have h':(kS S lv s x&&kB S lv .nil [])=true:=h
      rw [Bool.and_eq_true] at h'
      exact as5 (okS s Q x h'.1)
    | x :: y :: ys,h =>
      have h':(kS S lv s x&&kB S lv .nil (y :: ys))=true:=h
      rw [Bool.and_eq_true] at h'
      exact aY h'.2
  | .cons s (.cons s' r),X,S,ex,lv,Q,st,h=>by
    match st,h with
    | [],h=>exact aY h
    | x :: ys,h =>
      have h':(kS S lv s x&&kB S lv (.cons s' r) ys)=true:=h
      rw [Bool.and_eq_true] at h'
      exact an2 (okS s Q x h'.1) (okB (.cons s' r) Q ys h'.2)
end
end L4
namespace L4
open PySem PySem.Spec PyProof.Rows L2
def cJ (R:dG):dG:=fun d G'=>∃ G0,Le G0 G'∧R d G0
def jJ (EX:aX):aX:=fun C G'=>∃ G0,Le G0 G'∧EX C G0
def spD (n m:Nat) (tb:aX→bK):rA:=fun ds G R EX=>ds.length=m∧tb (jJ EX) ⟨fun _ G'=>cJ R .non G',cJ R,fun _ _=>False,fun _ _=>False⟩ (lO n ds) G
theorem cJ.here {R:dG} {d:D} {G:Gp} (h:R d G):cJ R d G:=⟨G,.refl G,h⟩
theorem jJ.here {R:aX} {d:Addr} {G:Gp} (h:R d G):jJ R d G:=⟨G,.refl G,h⟩
theorem a0D {K:Fg} {EX:aX} {E:XK} (h:UpX K EX E):UpX K (jJ EX) E:=fun C H' G' g ⟨G0,l,q⟩=>h C H' G0 (g.le l) q
theorem aj4 {qt:Bool} {P:Program} {w:World} {K:Fg} {mg:Str→Option Value} {base:Heap} {x qual:Str} {st:Stmt} {f:Addr} {fd:FuncData} {N ps:List Str} {k:Nat} {tb:aX→bK} (F:vJ K x qual st f fd) (S:bF N ps (aH st))
    (hbody:∀ (cdv:Value) (A:Around) (outer:List Env) (s:Shared) (H:Hp) (E:XK) (EX:aX),cH qt k (A.deeper (envOfC qual (aH st) s.heap.objs.size f cdv))→UpX K EX E →
      uN (vO qt P w K mg base N qual (aH st) f cdv A outer s H E) (bN st) (tb EX)):cR qt P w K mg base (kJ P w) (k+1) f fd ps (cT K (spD N.length ps.length tb)):=by
  refine (an7 F S hbody).imp fun vs H Q E ⟨ds,G,R,EX,r,g,⟨hl,q⟩,kk,hE⟩=>?_
  exact ⟨ds,G,cJ R,jJ EX,r,g,⟨hl,q⟩,fun v H' d G' r1 g1 ⟨G0,l,q⟩=>kk v H' d G0 r1 (g1.le l) q,a0D hE⟩
def GTs (P:Program) (w:World) (K:Fg) (mg:Str→Option Value) (base:Heap) (k:Nat) (x:Str):GT→Prop
  | .con d=>∃ u v,mg x=some u∧RelV v u∧∀ H,RD K H d v
  | .cls a=>mg x=some (.ref a)∧PySem.W.excIn K a BMv "ValueError.__new__" = true∧(PySem.W.clsIn K a).isSome=true∧PySem.W.typeIn K (.ref a)=some (.type "type")∧PySem.W.subIn K (.ref a) (.type "BaseException")=some true
  | .fn sp n qt=>∃ f fd ps,cR qt P w K mg base (kJ P w) k f fd ps (cT K sp)∧mg x=some (.ref f)∧PySem.W.keepIn K (.ref f)=true∧Binds K fd ps []
  | .bf b=>mg x=none∧bootBuiltins x=some (al3 b)
  | .bt n=>mg x=none∧bootBuiltins x=some (.type n)
  | .kl C sp dd=>∃ j f fd ps ds v8,j+1=k∧Mk K C f∧cR false P w K mg base (kJ P w) j f fd ps (cT K sp)∧mg x=some (.ref C)∧Binds K fd ps ds∧Vals v8 ds∧∀ H,bM K H dd v8
  | .me C m sp dd=>∃ f fd ps ds v8,Cls K C∧Meth K C m f∧cR false P w K mg base (kJ P w) k f fd ps (cT K sp)∧Binds K fd ps ds∧Vals v8 ds∧∀ H,bM K H dd v8
  | .fl C f=>Cls K C∧acZ K C f
  | .clo c sp=>rM false P w K mg base k c sp
  | .fnP sp n=>∃ f fd ps,rT false P w K mg base (kJ P w) k f fd ps (cT K sp)∧mg x=some (.ref f)∧PySem.W.keepIn K (.ref f)=true∧Binds K fd ps []
def aj5 (sc:Scope) (x:Str):Bool:=match sc.names.lookup x with
  | some .local=>true
  | some .cell=>true
  | _=>false
def aj6 (sc:Scope) (x:Str):Bool:=match sc.names.lookup x with
  | some .local=>true
  | _=>false
def aj7 (sc:Scope) (x:Str):Bool:=match sc.names.lookup x with
  | some .globalImplicit=>true
  | _=>false
def aj8 (sc:Scope) (x:Str):Bool:=match sc.names.lookup x with
  | some .cell=>true
  | _=>false
theorem aa6 {sc:Scope} {x:Str} (h:aj8 sc x=true):sc.names.lookup x=some .cell:=by
  unfold aj8 at h
  split at h
  · rename_i e;exact e
  · exact aY h
def vZ (S:SI) (sc:Scope):Bool:=(List.range S.N.length).all (fun i=>match S.N[i]? with
    | none=>false
    | some x=>x != ("__debug__" : Str)&&x != ("__classdict__" : Str)&&(S.fl[i]? != some true || aj5 sc x)&&(S.lc[i]? != some true || aj6 sc x)&&(S.ce[i]? != some true || aj8 sc x)) &&
  (List.range S.gl.length).all (fun k=>match S.gl[k]? with
    | none=>false
    | some (y,_)=>(S.gv[k]? != some true || aj7 sc y)&&y != ("__debug__" : Str)&&y != ("__name__" : Str))
theorem aa7 {sc:Scope} {x:Str} (h:aj5 sc x=true):Loc sc x:=by
  unfold aj5 at h
  split at h
  · rename_i e;exact .inl e
  · rename_i e;exact .inr e
  · exact aY h
theorem zG {sc:Scope} {x:Str} (h:Loc sc x):Vis sc x:=h.elim .inl fun z => .inr (.inl z)
theorem aa8 {sc:Scope} {x:Str} (h:aj6 sc x=true):sc.names.lookup x=some .local:=by
  unfold aj6 at h
  split at h
  · rename_i e;exact e
  · exact aY h
theorem aa9 {sc:Scope} {x:Str} (h:aj7 sc x=true):sc.names.lookup x=some .globalImplicit:=by
  unfold aj7 at h
  split at h
  · rename_i e;exact e
  · exact aY h
theorem f9 {S:SI} {sc:Scope} (h:vZ S sc=true) {i:Nat} {x:Str} (e:S.N[i]?=some x) :
    (x == ("__debug__" : Str))=false∧(x == ("__classdict__" : Str))=false∧(S.fl[i]?=some true→Loc sc x)∧(S.lc[i]?=some true→sc.names.lookup x=some .local)∧(S.ce[i]?=some true→sc.names.lookup x=some .cell):=by
  unfold vZ at h
  rw [Bool.and_eq_true] at h
  have hi:i < S.N.length:=(List.getElem?_eq_some_iff.mp e).1
  have q:=List.all_eq_true.mp h.1 i (List.mem_range.mpr hi)
  rw [e] at q
  simp only [Bool.and_eq_true,bne_iff_ne,ne_eq,Bool.or_eq_true] at q
  obtain ⟨⟨⟨⟨q1,q2⟩,q3⟩,q4⟩,q5⟩:=q
  refine ⟨beq_eq_false_iff_ne.mpr q1,beq_eq_false_iff_ne.mpr q2,fun z=>?_,fun z=>?_,fun z=>?_⟩
  · rcases q3 with q | q
    · exact absurd z q
    · exact aa7 q
  · rcases q4 with q | q
    · exact absurd z q
    · exact aa8 q
  · rcases q5 with q | q
    · exact absurd z q
    · exact aa6 q
theorem a4Y {S:SI} {sc:Scope} (h:vZ S sc=true) {k:Nat} {x:Str} {g:GT} (e:S.gl[k]?=some (x,g)):(S.gv[k]?=some true→sc.names.lookup x=some .globalImplicit)∧(x == ("__debug__" : Str))=false∧x ≠ "__name__" := by
  unfold vZ at h
  rw [Bool.and_eq_true] at h
  have q:=List.all_eq_true.mp h.2 k (List.mem_range.mpr (List.getElem?_eq_some_iff.mp e).1)
  rw [e] at q
  simp only [Bool.and_eq_true,bne_iff_ne,ne_eq,Bool.or_eq_true] at q
  exact ⟨fun z=>aa9 (q.1.1.resolve_left fun n=>n z),beq_eq_false_iff_ne.mpr q.1.2,q.2⟩
theorem aeW {qt:Bool} {P:Program} {w:World} {K:Fg} {mg:Str→Option Value} {base:Heap} {x qual:Str} {st:Stmt} {f:Addr} {fd:FuncData} {ps:List Str} {k:Nat} {S:SI} {c:CB} (F:vJ K x qual st f fd) (hS:bF S.N ps (aH st))
    (hc:S.calm=!qt) (hv:vZ S (aH st)=true) (hk:kB S 0 c (bN st)=true) (hg:∀ (j:Nat) (y:Str) (g:GT),S.gl[j]?=some (y,g)→GTs P w K mg base k y g) (hn:S.need=false:=by rfl) :
    cR qt P w K mg base (kJ P w) (k+1) f fd ps (cT K (spD S.N.length ps.length fun EX=>mB S.gl K (fun _=>EX) c)):=by
  refine aj4 F hS fun cdv A outer s H E EX hr hE=>?_
  refine okB c (X:=vO qt P w K mg base S.N qual (aH st) f cdv A outer s H E) (S:=S) (ex:=fun _=>EX) (lv:=0) ?_ (bN st) hk
  refine ⟨⟨rfl,hS.nd,fun i y e1 e2=>?_,fun i y e1 e2 => .inl ((f9 hv e1).2.2.2.2 e2),fun j y g e=>?_,hr.units,fun z=>hc.symm.trans z,an5 hE,fun z=>by rw [hn] at z;cases z⟩,fun i y e1 e2=>?_,fun i y e1 e2=>?_,fun _ _ _ _=>rfl,fun j y a e _=>?_,fun _=>own1,fun _ _=>an6 hE,rfl,rfl⟩
  · obtain ⟨a1,a2,a3,a4⟩:=f9 hv e1
    exact ⟨zG (a3 e2),a1,a2⟩
  · obtain ⟨a1,a2,a3⟩:=a4Y hv e
    have z:=hg j y g e
    refine ⟨a1,a2,a3,?_⟩
    cases g with
    | con d=>exact z
    | cls a=>exact ⟨z.1,z.2.1⟩
    | fn sp n q2 =>
      intro hz
      obtain ⟨f',fd',ps',F',m',k',b'⟩:=z
      refine ⟨k,f',fd',ps',F',⟨fun e=>hr.hd ?_,hr.dp,hr.un⟩,m',k',b'⟩
      have hs:S.calm=true:=hz.resolve_left (by rw [e];decide)
      rw [hc] at hs
      simpa using hs
    | bf b=>exact z
    | bt n=>exact z
    | kl C sp dd =>
      intro hs
      obtain ⟨j',f',fd',ps',ds,v8,rfl,q1,q2,q3,q4,q5,q6⟩:=z
      rw [hc] at hs
      exact ⟨j',f',fd',ps',ds,v8,q1,q2,⟨fun _=>hr.hd (by simpa using hs),hr.dp,hr.un⟩,q3,q4,q5,q6⟩
    | me C m sp dd =>
      intro hs
      obtain ⟨f',fd',ps',ds,v8,q1,q2,q3,q4,q5,q6⟩:=z
      rw [hc] at hs
      exact ⟨k,f',fd',ps',ds,v8,q1,q2,q3,⟨fun _=>hr.hd (by simpa using hs),hr.dp,hr.un⟩,q4,q5,q6⟩
    | fl C f=>exact z
    | clo c sp =>
      intro hs
      rw [hc] at hs
      exact ⟨k,z,⟨fun _=>hr.hd (by simpa using hs),hr.dp,hr.un⟩⟩
    | fnP sp n =>
      intro hs
      obtain ⟨f',fd',ps',F',m',k',b'⟩:=z
      rw [hc] at hs
      exact ⟨k,f',fd',ps',F',⟨fun _=>hr.hd (by simpa using hs),hr.dp,hr.un⟩,m',k',b'⟩
  · exact (f9 hv e1).2.2.1 e2
  · exact (f9 hv e1).2.2.2.1 e2
  · have z:=hg j y _ e
    exact z.2
end L4
namespace L4
open PySem PySem.Spec PyProof.Rows L2 PySem.W
def aoK (sc:Scope) (x:Str):Bool:=match sc.names.lookup x with
  | some .free=>true
  | _=>false
theorem aj9 {sc:Scope} {x:Str} (h:aoK sc x=true):sc.names.lookup x=some .free:=by
  unfold aoK at h
  split at h
  · assumption
  · exact aY h
def aeX (S:SI) (sc:Scope):Bool:=(List.range S.N.length).all (fun i=>match S.N[i]? with
    | none=>false
    | some x=>x != ("__debug__" : Str)&&x != ("__classdict__" : Str)&&(S.fl[i]? != some true || aj5 sc x)&&(S.lc[i]? != some true || aj6 sc x)&&(S.ce[i]? != some true || (aj8 sc x || aoK sc x))) &&
  (List.range S.gl.length).all (fun k=>match S.gl[k]? with
    | none=>false
    | some (y,_)=>(S.gv[k]? != some true || aj7 sc y)&&y != ("__debug__" : Str)&&y != ("__name__" : Str))
theorem a0E {S:SI} {sc:Scope} (h:aeX S sc=true) {i:Nat} {x:Str} (e:S.N[i]?=some x) :
    (x == ("__debug__" : Str))=false∧(x == ("__classdict__" : Str))=false∧(S.fl[i]?=some true→Loc sc x)∧(S.lc[i]?=some true→sc.names.lookup x=some .local)∧(S.ce[i]?=some true→sc.names.lookup x=some .cell∨sc.names.lookup x=some .free):=by
  unfold aeX at h
  rw [Bool.and_eq_true] at h
  have hi:i < S.N.length:=(List.getElem?_eq_some_iff.mp e).1
  have q:=List.all_eq_true.mp h.1 i (List.mem_range.mpr hi)
  rw [e] at q
  simp only [Bool.and_eq_true,bne_iff_ne,ne_eq,Bool.or_eq_true] at q
  obtain ⟨⟨⟨⟨q1,q2⟩,q3⟩,q4⟩,q5⟩:=q
  exact ⟨beq_eq_false_iff_ne.mpr q1,beq_eq_false_iff_ne.mpr q2,fun z=>aa7 (q3.resolve_left fun n=>n z),fun z=>aa8 (q4.resolve_left fun n=>n z),fun z=>(q5.resolve_left fun n=>n z).elim (fun y => .inl (aa6 y)) fun y => .inr (aj9 y)⟩
theorem aoL {S:SI} {sc:Scope} (h:aeX S sc=true) {k:Nat} {y:Str} {g:GT} (e:S.gl[k]?=some (y,g)):(S.gv[k]?=some true→sc.names.lookup y=some .globalImplicit)∧(y == ("__debug__" : Str))=false∧y ≠ "__name__" := by
  unfold aeX at h
  rw [Bool.and_eq_true] at h
  have hi:k < S.gl.length:=(List.getElem?_eq_some_iff.mp e).1
  have q:=List.all_eq_true.mp h.2 k (List.mem_range.mpr hi)
  rw [e] at q
  simp only [Bool.and_eq_true,bne_iff_ne,ne_eq,Bool.or_eq_true] at q
  exact ⟨fun z=>aa9 (q.1.1.resolve_left fun n=>n z),beq_eq_false_iff_ne.mpr q.1.2,q.2⟩
section
variable {P:Program} {w:World} {K:Fg} {mg:Str→Option Value} {base:Heap} {k:Nat}
theorem a8H {X:Cx} {S:SI} {qt:Bool} (hX:X.prog=P∧X.w=w∧X.K=K∧X.mg=mg∧X.base=base) (hr:cH qt k X.A) (hc:S.calm=!qt) {y:Str} {g:GT} (z:GTs P w K mg base k y g):aoE X S.calm y g:=by
  obtain ⟨rfl,rfl,rfl,rfl,rfl⟩:=hX
  cases g with
  | con d=>exact z
  | cls a=>exact ⟨z.1,z.2.1⟩
  | fn sp n q2 =>
    intro hz
    obtain ⟨f',fd',ps',F',m',k',b'⟩:=z
    refine ⟨k,f',fd',ps',F',⟨fun e=>hr.hd ?_,hr.dp,hr.un⟩,m',k',b'⟩
    have hs:S.calm=true:=hz.resolve_left (by rw [e];decide)
    rw [hc] at hs
    simpa using hs
  | bf b=>exact z
  | bt n=>exact z
  | kl C sp dd =>
    intro hs
    obtain ⟨j',f',fd',ps',ds,v8,rfl,q1,q2,q3,q4,q5,q6⟩:=z
    rw [hc] at hs
    exact ⟨j',f',fd',ps',ds,v8,q1,q2,⟨fun _=>hr.hd (by simpa using hs),hr.dp,hr.un⟩,q3,q4,q5,q6⟩
  | me C m sp dd =>
    intro hs
    obtain ⟨f',fd',ps',ds,v8,q1,q2,q3,q4,q5,q6⟩:=z
    rw [hc] at hs
    exact ⟨k,f',fd',ps',ds,v8,q1,q2,q3,⟨fun _=>hr.hd (by simpa using hs),hr.dp,hr.un⟩,q4,q5,q6⟩
  | fl C f=>exact z
  | clo c sp =>
    intro hs
    rw [hc] at hs
    exact ⟨k,z,⟨fun _=>hr.hd (by simpa using hs),hr.dp,hr.un⟩⟩
  | fnP sp n =>
    intro hs
    obtain ⟨f',fd',ps',F',m',k',b'⟩:=z
    rw [hc] at hs
    exact ⟨k,f',fd',ps',F',⟨fun _=>hr.hd (by simpa using hs),hr.dp,hr.un⟩,m',k',b'⟩
theorem aeY {c:vM} {ps:List Str} {S:SI} {cb:CB} (hS:ScX S.N ps c.x c.scope) (zU:∀ y∈c.scope.names,y.1=c.x→y.2 ≠ .cell)
    (hb:∀ (cl:List (Str×Addr)) (doc pm cdv ctv:Value) (us:List Value),us.length=ps.length→bindArgs (fnX c.name c.qual c.params c.body c.scope cl .none .none doc pm none cdv ctv) ⟨us,[]⟩=pure (ps.zip us))
    (hc:S.calm=true) (hv:aeX S c.scope=true) (hk:kB S 0 cb c.body=true) (hg:∀ (j:Nat) (y:Str) (g:GT),S.gl[j]?=some (y,g)→GTs P w K mg base k y g) (hn:S.need=false:=by rfl) :
    rM false P w K mg base (k+1) c (spD S.N.length (ps.length+1) fun EX=>mB S.gl K (fun _=>EX) cb):=by
  have main:rM false P w K mg base (k+1) c (adI S.N.length (ps.length+1) fun EX=>mB S.gl K (fun _=>jJ EX) cb):=by
    refine anA hS zU hb fun f c' cc A outer s H hr=>?_
    refine okB cb (X:=cxX false (kJ P w) P w K mg base S.N c.qual c.scope f (.ref c') c.x cc A outer s H (fun _ _ _=>False)) (S:=S) (ex:=fun _=>jJ fun _ _=>False) (lv:=0) ?_ c.body hk
    refine ⟨⟨rfl,hS.nd,fun i y e1 e2=>?_,fun i y e1 e2=>(a0E hv e1).2.2.2.2 e2,fun j y g e=>?_,hr.units,fun _=>rfl,⟨fun pins σ H' s' ρ e s'' I sr z=>?_⟩,fun z=>by rw [hn] at z;cases z⟩,fun i y e1 e2=>(a0E hv e1).2.2.1 e2,fun i y e1 e2=>(a0E hv e1).2.2.2.1 e2,fun i y e1 e2=>?_,fun j y a e _=>(hg j y _ e).2,fun _=>PassesOwn.leaving,fun _ _=>⟨fun pins σ H' s' ρ C e us h' I sr hm z=>?_⟩,rfl,rfl⟩
    · obtain ⟨a1,a2,a3,_⟩:=a0E hv e1
      exact ⟨zG (a3 e2),a1,a2⟩
    · obtain ⟨a1,a2,a3⟩:=aoL hv e
      exact ⟨a1,a2,a3,a8H (qt:=false) ⟨rfl,rfl,rfl,rfl,rfl⟩ hr hc (hg j y g e)⟩
    · obtain ⟨_,_,_,_,_,_,_,_,_,_,_,_,z⟩:=z
      obtain ⟨_,_,_,_,_,_,z⟩:=z
      exact z.elim
    · show (!(y == c.x))=true
      have l:=(a0E hv e1).2.2.1 e2
      have n:y≠c.x:=fun q=>by
        subst q
        rcases l with l | l <;> (have o:=hS.own;rw [l] at o;cases o)
      simp [n]
    · obtain ⟨_,_,_,_,_,_,z⟩:=z
      exact z.elim
  intro A outer s H us vs ds d G R E f hr e0 hh g hf rv rd hsp
  refine codeAny_mono (main A outer s H us vs ds d G (cJ R) E f hr e0 hh g hf rv rd hsp) fun r s' q=>?_
  cases r with
  | error e=>exact q
  | ok fl =>
    cases fl with
    | ret u =>
      obtain ⟨v,H',a1,a2,a3,a4,a5,d',G2,r2,g2,G0,l,q2⟩:=q
      exact ⟨v,H',a1,a2,a3,a4,a5,d',G0,r2,g2.le l,q2⟩
    | _=>exact q
theorem abZ {qt:Bool} {x qual:Str} {st:Stmt} {f:Addr} {fd:FuncData} {ps:List Str} {S:SI} {c:CB} (F:vJ K x qual st f fd) (hS:bF S.N ps (aH st)) (hc:S.calm=!qt) (hv:vZ S (aH st)=true) (hk:kB S 0 c (bN st)=true)
    (hg:∀ (j:Nat) (y:Str) (g:GT),S.gl[j]?=some (y,g)→GTs P w K mg base k y g):rT qt P w K mg base (kJ P w) (k+1) f fd ps (cT K (spD S.N.length ps.length fun EX=>mB S.gl K (fun _=>EX) c)):=by
  have z:=aiP (qt:=qt) (P:=P) (w:=w) (mg:=mg) (base:=base) (k:=k) (tb:=fun EX=>mB S.gl K (fun _=>EX) c) F hS fun cdv A outer s H E EX hr hE=>by
    refine okB c (X:=(vO qt P w K mg base S.N qual (aH st) f cdv A outer s H E).ask) (S:=S) (ex:=fun _=>EX) (lv:=0) ?_ (bN st) hk
    refine ⟨⟨rfl,hS.nd,fun i y e1 e2=>?_,fun i y e1 e2 => .inl ((f9 hv e1).2.2.2.2 e2),fun j y g e=>?_,hr.units,fun z=>hc.symm.trans z,(an5 hE).ask,fun _=>rfl⟩,fun i y e1 e2=>(f9 hv e1).2.2.1 e2,fun i y e1 e2=>(f9 hv e1).2.2.2.1 e2,fun _ _ _ _=>rfl,fun j y a e _=>(hg j y _ e).2,fun _=>own1 (qt:=qt) (P:=P) (w:=w) (K:=K) (mg:=mg) (base:=base) (N:=S.N) (qual:=qual) (scope:=aH st) (f:=f) (cd:=cdv) (A:=A) (outer:=outer) (s₀:=s) (H₀:=H) (E:=E),fun _ _=>(an6 hE).ask,rfl,rfl⟩
    · obtain ⟨a1,a2,a3,a4⟩:=f9 hv e1
      exact ⟨zG (a3 e2),a1,a2⟩
    · obtain ⟨a1,a2,a3⟩:=a4Y hv e
      exact ⟨a1,a2,a3,a8H ⟨rfl,rfl,rfl,rfl,rfl⟩ hr hc (hg j y g e)⟩
  have up:∀ vs H Q E,cT K (spD S.N.length ps.length fun EX=>mB S.gl K (fun _=>EX) c) vs H Q E→cT K (adI S.N.length ps.length fun EX=>mB S.gl K (fun _=>EX) c) vs H Q E:=fun vs H Q E ⟨ds,G,R,EX,r,g,⟨hl,q⟩,kk,hE⟩ =>
    ⟨ds,G,cJ R,jJ EX,r,g,⟨hl,q⟩,fun v H' d G' r1 g1 ⟨G0,l,q⟩=>kk v H' d G0 r1 (g1.le l) q,a0D hE⟩
  exact ⟨fun vs H Q E q=>z.len vs H Q E (up _ _ _ _ q),fun A outer s H args us vs Q E hr he hb hv hs=>z.run A outer s H args us vs Q E hr he hb hv (up _ _ _ _ hs)⟩
def alB (n m:Nat) (tb:aX→bK) (T:Addr) (c:vM) (pos:Pos) (ix:Nat):rA:=as7 n m (fun EX=>tb (jJ EX)) T c pos ix
theorem ajA {qt:Bool} {x qual:Str} {st:Stmt} {f cC T:Addr} {fd:FuncData} {ps:List Str} {ig ix:Nat} {S:SI} {cb:CB} {pre:List Stmt} {c:vM} {pos pg pr:Pos} (F:vJ K x qual st f fd) (hS:bF S.N ps (aH st))
    (hb:bN st=(pre++[.FunctionDef c.name c.params c.body [] none [] c.scope none c.name pos])++[.Return (some (.Name c.name pg)) pr]) (hd0:c.params.defaults=[]) (hk0:c.params.kw_defaults=[]) (ha:∀ env,annTrees c.params none env=[])
    (hq:qual ++ ".<locals>." ++ c.name=c.qual) (hfc:fd.code = .ref cC) (hC:CodeHd base cC T) (hbt:base.BuiltinsAt mg T) (hcf:c.scope.names.filter (fun p=>p.2 == .free)=[(c.x,.free)])
    (hig:S.N[ig]?=some c.name) (hgl:(aH st).names.lookup c.name=some .local) (hix:S.N[ix]?=some c.x) (hxc:(aH st).names.lookup c.x=some .cell) (hne:ig≠ix) (hdb:(c.name == ("__debug__" : Str))=false) (hcd:(c.name == ("__classdict__" : Str))=false)
    (hc:S.calm=!qt) (hv:vZ S (aH st)=true) (hk:kB S 0 cb pre=true) (hg:∀ (j:Nat) (y:Str) (g:GT),S.gl[j]?=some (y,g)→GTs P w K mg base k y g) (hn:S.need=false:=by rfl) :
    cR qt P w K mg base (kJ P w) (k+1) f fd ps (cT K (alB S.N.length ps.length (fun EX=>mB S.gl K (fun _=>EX) cb) T c pos ix)):=by
  have z:=an8 (tb:=fun EX=>mB S.gl K (fun _=>EX) cb) F hS hb hd0 hk0 ha hq hfc hC hbt hcf hig hgl hix hxc hne hdb hcd (k:=k) (qt:=qt) (P:=P) (w:=w) fun cdv A outer s H E EX hr hE=>by
    refine okB cb (X:=vO qt P w K mg base S.N qual (aH st) f cdv A outer s H E) (S:=S) (ex:=fun _=>EX) (lv:=0) ?_ pre hk
    refine ⟨⟨rfl,hS.nd,fun i y e1 e2=>?_,fun i y e1 e2 => .inl ((f9 hv e1).2.2.2.2 e2),fun j y g e=>?_,hr.units,fun z=>hc.symm.trans z,an5 hE,fun z=>by rw [hn] at z;cases z⟩,fun i y e1 e2=>(f9 hv e1).2.2.1 e2,fun i y e1 e2=>(f9 hv e1).2.2.2.1 e2,fun _ _ _ _=>rfl,fun j y a e _=>(hg j y _ e).2,fun _=>own1,fun _ _=>an6 hE,rfl,rfl⟩
    · obtain ⟨a1,a2,a3,a4⟩:=f9 hv e1
      exact ⟨zG (a3 e2),a1,a2⟩
    · obtain ⟨a1,a2,a3⟩:=a4Y hv e
      exact ⟨a1,a2,a3,a8H ⟨rfl,rfl,rfl,rfl,rfl⟩ hr hc (hg j y g e)⟩
  refine z.imp fun vs H Q E ⟨ds,G,R,EX,r,g,q,kk,hE⟩=>⟨ds,G,R,jJ EX,r,g,q,kk,a0D hE⟩
end
theorem rM.mono {qt:Bool} {P:Program} {w:World} {K:Fg} {mg:Str→Option Value} {base:Heap} {j k:Nat} {c:vM} {sp:rA} (F:rM qt P w K mg base j c sp) (h:j≤k):rM qt P w K mg base k c sp :=
  fun A outer s H us vs ds d G R E f hr=>F A outer s H us vs ds d G R E f (hr.mono h)
def inBody (s:Stmt) (i:Nat):Stmt:=(bN s).getD i (.Pass ⟨0,0,0,0⟩)
def atM (qual x:Str) (s:Stmt):vM:=match s with
  | .FunctionDef nm a b _ _ _ sc _ _ _=>⟨nm,qual ++ ".<locals>." ++ nm,a,b,sc,x⟩
  | s=>⟨"", "",jP s,[],aH s, ""⟩
def a73 (s:Stmt):Pos:=match s with
  | .FunctionDef _ _ _ _ _ _ _ _ _ p=>p
  | _=>⟨0,0,0,0⟩
def atN (s:Stmt):Pos:=match s with
  | .Return _ p=>p
  | _=>⟨0,0,0,0⟩
def aoM (s:Stmt):Pos:=match s with
  | .Return (some (.Name _ p)) _=>p
  | _=>⟨0,0,0,0⟩
theorem ac0 {sc:Scope} {x:Str} (h:sc.names.all (fun p=>p.2 != .free || p.1 == x)=true):∀ y,sc.names.lookup y=some .free→y=x:=by
  have key:∀ (l:List (Str×NameKind)),l.all (fun p=>p.2 != .free || p.1 == x)=true→∀ y,l.lookup y=some .free→y=x:=by
    intro l
    induction l with
    | nil=>intro _ y z;cases z
    | cons p r ih =>
      intro ha y z
      obtain ⟨n,kd⟩:=p
      rw [List.all_cons,Bool.and_eq_true] at ha
      rw [List.lookup_cons] at z
      split at z
      · rename_i e
        cases z
        rcases Bool.or_eq_true _ _ |>.mp ha.1 with q | q
        · simp at q
        · rw [beq_iff_eq.mp e];exact beq_iff_eq.mp q
      · exact ih ha.2 y z
  exact key _ h
theorem aeZ {K:Fg} {x qual:Str} {st:Stmt} {f c t:Addr} {fd:FuncData} (F:vJ K x qual st f fd) {y:Str} (h:tabIn K y=some (c,t)) (hn:nsIn K mainGlobals y=some (some (.ref f))):fd.code = .ref c:=by
  obtain ⟨oc,od,dV,kV,doc,pm,an,cdv,ct,osl,rfl,lk,_⟩:=F.ex
  unfold tabIn at h
  rw [hn] at h
  dsimp only at h
  rw [lk] at h
  dsimp only at h
  split at h
  · rename_i c' e
    split at h
    · split at h
      · cases h;first | exact e | assumption | rfl
      · cases h
    · cases h
  · cases h
def qZ (K:Fg) (x:Str):Addr×Addr:=(tabIn K x).getD (0,0)
theorem aaA {K:Fg} {x:Str} (h:(tabIn K x).isSome=true):tabIn K x=some ((qZ K x).1,(qZ K x).2):=by
  unfold qZ
  cases e:tabIn K x with
  | none=>rw [e] at h;cases h
  | some p=>rfl
end L4
namespace L2
open PySem PySem.Spec PyProof.Rows PySem.W
def af0 (T:Addr) (H:Hp):Prop:=H T=some (.xU #[])∧∀ b,b≠T→H b=none∨∃ o xs,H b=some (.mZ o (.lst xs))
theorem ac1 {qt:Bool} {P:Program} {w:World} {K:PySem.W.Frag} {mg mb:Str→Option Value} {CX:zP} {k:Nat} {fa a T cC:Addr} {fd:FuncData} {x:Str} {sp:Sp} {s₁:Shared} {vs:List Value} {ns:List Int}
    (KX:K.In s₁.heap) (hns:s₁.heap.Ns mainGlobals mg) (hb:s₁.heap.Ns builtinsNs mb) (hbb:∀ x:Str,x ≠ "__name__" → mb x=bootBuiltins x) (hlim:s₁.heap.NoLimit) (hg:s₁.gens=#[])
    (ha:s₁.heap.get? a=some { cls := .type "list",data := .seq vs.toArray }) (hi:IntsAre vs ns) (hl:ns.length≤sizeLine) (hr:cH qt k callerA)
    (hC:CodeHd s₁.heap cC T) (hT:s₁.heap.get? T=some (tabObj #[])) (hKT:K.lookup T=none) (hbm:∃ bm o,mg "__builtins__" = some (.ref bm)∧bm≠builtinsNs∧bm≠mainGlobals∧s₁.heap.get? bm=some o∧o.cls = .type "module" ∧ o.dict=some builtinsNs∧o.data = .plain)
    (F:∀ base:Heap,K.In base→base.Ns mainGlobals mg→base.BuiltinsAt mg T→CodeHd base cC T→cR qt P w K mg base CX k fa fd [x] sp) (hbind:∀ (s:Shared) (u:Value),BindsTo s fd ⟨[u],[]⟩ [(x,u)])
    (hsp:∀ H:Hp,af0 T H→tX K H a (ns.map V.int)→sp [.ref a] H (fun v _=>v = .bl true) fun _ _ _=>False)
    (hCX:∀ H e s',CX [] H s₁ (fun _ _ _=>False) e s'→False) :
    codeAny (model P w) callerA (.call (.ref fa) ⟨[.ref a],[]⟩) (fun r s'=>r = .ok (.ret (.bool true))∧OldK s₁.heap s'.heap∧s'.os=s₁.os∧AllBare s'.gens) s₁:=by
  have rv:=a2P hi
  have lenV:=hi.length
  have aT:a≠T:=fun z=>by rw [z,hT] at ha;cases ha
  have core:∀ H:Hp,af0 T H→tX K H a (ns.map V.int)→nR P w H s₁.heap→(∀ b,H b≠none→b=a∨b=T)→(H a≠none→K.lookup a=none) →
      codeAny (model P w) callerA (.call (.ref fa) ⟨[.ref a],[]⟩) (fun r s'=>r = .ok (.ret (.bool true))∧OldK s₁.heap s'.heap∧s'.os=s₁.os∧AllBare s'.gens) s₁:=by
    intro H hO hS hok hA hK
    have zH:∀ {b:Addr} {o:Obj},s₁.heap.get? b=some o→H b=none→(zK s₁.heap H).get? b=some o:=fun e n=>acN e n
    have no:∀ {b:Addr} {o:Obj},s₁.heap.get? b=some o→(∀ its n,o.data ≠ .seq its n)→o.cls ≠ .none→H b=none:=fun {b o} e d1 d2=>by
      cases q:H b with
      | none=>rfl
      | some u =>
        rcases hA b (by rw [q];simp) with e' | e'
        · subst e'
          rw [ha] at e;cases e
          exact absurd rfl (d1 _ _)
        · subst e'
          rw [hT] at e;cases e
          exact absurd rfl d2
    have noD:∀ {b:Addr} {o:Obj} {es:Array DictEntry} {ep:Nat},s₁.heap.get? b=some o→o.data = .dict es ep→H b=none:=fun {b o es ep} e d=>by
      cases q:H b with
      | none=>rfl
      | some u =>
        rcases hA b (by rw [q];simp) with e' | e'
        · subst e'
          rw [ha] at e;cases e;cases d
        · subst e'
          rw [hT] at e;cases e;cases d
    have nsK:∀ {b:Addr} {m:Str→Option Value},s₁.heap.Ns b m→(zK s₁.heap H).Ns b m:=fun {b m} ⟨o,es,ep,e,d,r⟩=>⟨o,es,ep,zH e (noD e d),d,r⟩
    have hKb:K.In (zK s₁.heap H):=fun b o e=>zH (KX b o e) (by
      cases q:H b with
      | none=>rfl
      | some u =>
        rcases hA b (by rw [q];simp) with e' | e'
        · subst e'
          rw [hK (by rw [q];simp)] at e;cases e
        · subst e'
          rw [hKT] at e;cases e)
    have hM:Mod K mg (zK s₁.heap H):=⟨hKb,nsK hns,⟨mb,nsK hb,hbb⟩,let ⟨mc,h1,h2⟩:=hlim;⟨mc,nsK h1,h2⟩⟩
    have hBA:(zK s₁.heap H).BuiltinsAt mg T:=by
      obtain ⟨bm,o,b1,b2,b3,b4,b5,b6,b7⟩:=hbm
      refine ⟨bm,o,b1,b2,b3,fun z=>?_,zH b4 (no b4 (fun its n z=>by rw [b7] at z;cases z) (by rw [b5];intro z;cases z)),b5,b6,b7⟩
      rw [z,hT] at b4;cases b4;cases b5
    have hCb:CodeHd (zK s₁.heap H) cC T:=by
      obtain ⟨o,vs',file,tf,flags,tg,inF,text,tt,e,c1,c2,r⟩:=hC
      exact ⟨o,vs',file,tf,flags,tg,inF,text,tt,zH e (no e (fun its n z=>by rw [c2] at z;cases z) (by rw [c1];intro z;cases z)),c1,c2,r⟩
    have e0:uJ P w K mg (zK s₁.heap H) callerA [] s₁ H:=⟨rfl,hM,fun b o e=>agM e,Nat.le_of_eq (ab4 _ _),trivial,fun b hb=>absurd (show b∈([]:List Addr) from hb) (by simp),hok,.of_eq hg,.inl rfl⟩
    refine codeAny_mono ((F _ hKb (nsK hns) hBA hCb).run callerA [] s₁ H ⟨[.ref a],[]⟩ [.ref a] [.ref a] _ _ hr e0 (hbind s₁ (.ref a)) (.cons rfl .nil) (hsp H hO hS)) fun r s' h=>?_
    cases r with
    | error e=>exact (hCX H e s' h).elim
    | ok fl =>
      cases fl with
      | next=>exact False.elim h
      | brk=>exact False.elim h
      | cont=>exact False.elim h
      | ret u =>
        obtain ⟨v,H',os,bare,un,hok',r',q⟩:=h
        have q':v = .bl true:=q
        subst q'
        obtain rfl:u=Value.bool true:=r'
        have old:∀ b o,b≠T→s₁.heap.get? b=some o→s'.heap.get? b=some o:=fun b o bT e=>by
          cases q:H b with
          | none=>exact un.keep b o e q (by intro z;exact absurd (show b∈([]:List Addr) from z) (by simp)) (by simp)
          | some u =>
            rcases hO.2 b bT with z | ⟨ob,xs,z⟩
            · rw [q] at z;cases z
            · have z2:=un.d9 b ob _ z
              obtain ⟨e1,_⟩:=hok b _ z
              obtain ⟨e2,_⟩:=hok' b _ z2
              rw [e] at e1;cases e1
              exact e2
        obtain ⟨more,eM⟩:=un.jO T _ hO.1
        have hT':s'.heap.get? T=some (tabObj (#[]++more)):=hok' T _ eM
        refine ⟨rfl,⟨fun b o e=>?_,fun b o e=>?_⟩,os,bare⟩
        · by_cases bT:b=T
          · subst bT
            rw [hT] at e
            cases e
            exact .inr (.inl ⟨(hC.tab hT).isCodeTable,rfl,#[],#[]++more,rfl,by rw [Array.empty_append];exact hT'⟩)
          · exact .inl (old b o bT e)
        · by_cases bT:b=T
          · subst bT;exact ⟨_,hT'⟩
          · exact ⟨o,old b o bT e⟩
  cases hk:K.lookup a with
  | some o =>
    have e:=KX a o hk
    rw [ha] at e
    cases e
    refine core (fun b=>if b=T then some (.xU #[]) else none) ⟨if_pos rfl,fun b n => .inl (if_neg n)⟩ (.inr ⟨_,vs.toArray,_,hk,rfl,rfl,rfl,by rw [List.size_toArray,lenV];exact hl,by simpa using rv⟩) (fun b u z=>?_) (fun b z=>?_) fun z=>absurd (if_neg aT) z
    · by_cases hb:b=T
      · have z':=(if_pos hb).symm.trans z
        cases z'
        subst hb
        exact hT
      · have z':=(if_neg hb).symm.trans z
        cases z'
    · by_cases hb:b=T
      · exact .inr hb
      · exact absurd (if_neg hb) z
  | none =>
    refine core (fun b=>if b=T then some (.xU #[]) else if b=a then some (.mZ { cls := .type "list",data := .seq vs.toArray } (.lst (ns.map V.int))) else none) ⟨if_pos rfl,fun b n=>?_⟩ (.inl (.inr ⟨{ cls := .type "list",data := .seq vs.toArray },(if_neg aT).trans (if_pos rfl)⟩)) (fun b u z=>?_) (fun b z=>?_) fun _=>hk
    · by_cases hb:b=a
      · exact .inr ⟨_,_,(if_neg n).trans (if_pos hb)⟩
      · exact .inl ((if_neg n).trans (if_neg hb))
    · by_cases hb:b=T
      · have z':=(if_pos hb).symm.trans z
        cases z'
        subst hb
        exact hT
      · have z:=(if_neg hb).symm.trans z
        by_cases hb2:b=a
        · have z':=(if_pos hb2).symm.trans z
          cases z'
          subst hb2
          exact ⟨ha,by rw [List.length_map];exact hl,vs,_,rv,ha⟩
        · have z':=(if_neg hb2).symm.trans z
          cases z'
    · by_cases hb:b=T
      · exact .inr hb
      · by_cases hb2:b=a
        · exact .inl hb2
        · exact absurd ((if_neg hb).trans (if_neg hb2)) z
theorem af2 {qt:Bool} {l:PySem.W.OpenLaw} {n k:Nat} {q:Program} {loose:List Str} {XP:(Str→Option Value)→Heap→Prop} {YP:World→Heap→Prop} {d dm:DefRec} {K:Params→PySem.W.Frag} {CX:World→zP} {sp:World→Sp} {x xm:Str} {T cC:World→Addr}
    (hn:l.most=some n) (hn2:n≤sizeLine) (hdf:d.params.defaults=[]) (hr:cH qt k callerA)
    (hY:∀ (w:World) (h:Heap),YP w h→(K w.params).In h) (hdm:(recsOf q).find? (fun e=>e.name == xm)=some dm) (ht:∀ w,tabIn (K w.params) xm=some (cC w,T w)) (hKT:∀ w,(K w.params).lookup (T w)=none)
    (F:∀ (w:World) (mg:Str→Option Value) (fa:Addr) (h:Heap),(K w.params).In h→h.Ns mainGlobals mg→mg d.name=some (.ref fa) →
      ∃ fd:FuncData,(∀ (s:Shared) (u:Value),BindsTo s fd ⟨[u],[]⟩ [(x,u)]) ∧
        ∀ base:Heap,(K w.params).In base→base.Ns mainGlobals mg→base.BuiltinsAt mg (T w)→CodeHd base (cC w) (T w)→cR qt l.prog w (K w.params) mg base (CX w) k fa fd [x] (sp w))
    (hsp:∀ (w:World) (H:Hp) (a:Addr) (ns:List Int),ns.length≤n→af0 (T w) H→tX (K w.params) H a (ns.map V.int)→sp w [.ref a] H (fun v _=>v = .bl true) fun _ _ _=>False)
    (hCX:∀ (w:World) (H:Hp) (s:Shared) (e:Value) (s':Shared),CX w [] H s (fun _ _ _=>False) e s'→False) :
    PySem.W.WalkO q loose XP YP l.row.toRowW d [] (fun f vs=>PySem.call f vs):=by
  refine Att.a68 hn hdf fun w s₀ s₁ mg mb fa o pm cd doc a vs ns G Y ho hd hcd hmg hobj hints hlen hg=>?_
  have KX:=hY w _ Y
  obtain ⟨fd,hb,hF⟩:=F w mg fa _ KX G.T.g hmg
  obtain ⟨t1,t2⟩:=tab_of G.T KX hdm (ht w)
  obtain ⟨bm,ob,b1,b2,b3,b4,b5,b6⟩:=G.T.bmain
  have bG:bm≠mainGlobals:=fun z=>by
    obtain ⟨o,es,ep,e,hd,_⟩:=G.T.g
    rw [z,e] at b3;cases b3;rw [hd] at b6;cases b6
  exact ac1 KX G.T.g G.T.b G.T.builtins G.T.nolimit hg hobj hints (Nat.le_trans hlen hn2) hr t1 t2 (hKT w) ⟨bm,ob,b1,b2,bG,b3,b4,b5,b6⟩ hF hb (fun H hO hS=>hsp w H a ns hlen hO hS) fun H e s'=>hCX w H s₁ e s'
end L2
namespace L4
open PySem PySem.Spec PyProof.Rows L2
theorem gln {P:Str→GT→Prop}:∀ (j:Nat) (y:Str) (g:GT),([]:List (Str×GT))[j]?=some (y,g)→P y g:=fun j y g h=>by simp at h
theorem nZ {P:Str→GT→Prop} {x:Str} {g:GT} {l:List (Str×GT)} (h:P x g) (r:∀ (j:Nat) (y:Str) (g:GT),l[j]?=some (y,g)→P y g):∀ (j:Nat) (y:Str) (g':GT),((x,g) :: l)[j]?=some (y,g')→P y g'
  | 0,y,g',e=>by simp at e;obtain ⟨e1,e2⟩:=e;subst e1;subst e2;exact h
  | j+1,y,g',e=>r j y g' (by simpa using e)
section
variable {P:Program} {w:World} {K:Fg} {mg:Str→Option Value} {base:Heap} {k:Nat} {x:Str}
theorem gcT {ds:List D} (h:∃ a,mg x=some (.ref a)∧∀ H,RD K H (.tup ds) (.ref a)):GTs P w K mg base k x (.con (.tup ds)):=by
  obtain ⟨a,h,r⟩:=h
  exact ⟨_,.ref a,h,rfl,r⟩
end
theorem aoN {K:Fg} {a:Addr} {its:Array Value} {n:Nat} {sl:Array (Option Value)} {xs:List V} {ds:List D} (h:K.lookup a=some ⟨.type "tuple",none,.seq its n,sl⟩) (hz:its.size≤sizeLine) (v:Vals xs its.toList) (r:∀ H,bM K H ds xs) (H:Hp):RD K H (.tup ds) (.ref a) :=
  .tup (.inr ⟨_,its,n,h,rfl,rfl,rfl,hz,v⟩) (r H) trivial
theorem af3:bootBuiltins "range" = some (.type "range"):=by decide +kernel
end L4
namespace L4
open PySem PySem.Spec PyProof.Rows L2
theorem aaC {K:Fg} {fd:FuncData} {ps:List Str} (h:∀ us:List Value,us.length=ps.length→bindArgs fd ⟨us,[]⟩=pure (ps.zip us)):Binds K fd ps []:=Binds.all h
end L4
namespace L5
open PySem PySem.Spec PyProof.Rows L2 L4
def onB (x:D) (f:Bool→Prop):Prop:=match x with
  | .bl k=>f k
  | _=>False
def onI (x:D) (f:Int→Prop):Prop:=match x with
  | .int k=>f k
  | _=>False
theorem aoO {k:Bool} {f:Bool→Prop}:onB (.bl k) f=f k:=rfl
theorem ajB {k:Int} {f:Int→Prop}:onI (.int k) f=f k:=rfl
def u5 (xs:List D):Prop:=xs.length≤sizeLine
theorem aoP:u5 []=True:=eq_true (show 0≤sizeLine by decide)
theorem aoQ {a0:D}:u5 [a0]=True:=eq_true (show 1≤sizeLine by decide)
theorem aoR {a0 a1:D}:u5 [a0,a1]=True:=eq_true (show 2≤sizeLine by decide)
theorem aoS {a0 a1 a2 a3 a4:D}:u5 [a0,a1,a2,a3,a4]=True:=eq_true (show 5≤sizeLine by decide)
theorem aoT {a0 a1 a2 a3 a4 a5:D}:u5 [a0,a1,a2,a3,a4,a5]=True:=eq_true (show 6≤sizeLine by decide)
theorem ajC {a0 a1 a2 a3 a4 a5 a6 a7 a8 a9 a10:D}:u5 [a0,a1,a2,a3,a4,a5,a6,a7,a8,a9,a10]=True:=eq_true (show 11≤sizeLine by decide)
theorem ajD {a0 a1 a2 a3 a4 a5 a6 a7 a8 a9 a10 a11:D}:u5 [a0,a1,a2,a3,a4,a5,a6,a7,a8,a9,a10,a11]=True:=eq_true (show 12≤sizeLine by decide)
section
variable {t u:bK} {F:iG} {ρ:aN} {G:Gp} {R:dG} {te ta tb tc:cB} {tt tt':uM} {tA:n6} {K:Fg}
theorem atO:aO t u F ρ G=t { F with nx:=u F } ρ G:=rfl
theorem aoU:bQ F ρ G=F.nx ρ G:=rfl
theorem aoV:uR te F ρ G=te ρ G fun _ G1=>F.nx ρ G1:=rfl
theorem atP:bU te F ρ G=te ρ G F.rt:=rfl
theorem atQ:dH tt t u F ρ G=tt ρ G fun b G1=>if b=true then t F ρ G1 else u F ρ G1:=rfl
theorem atR {i:Nat}:bJ i te F ρ G=te ρ G fun x G1=>F.nx (tW ρ i x) G1:=rfl
theorem x_raise {EX:aN→aX} {C:Addr}:tH EX C tA F ρ G=tA ρ G fun ds G1=>u5 ds∧EX ρ C G1:=rfl
theorem atU {C:Addr} {i:Nat} {bd:(aN→aX)→bK}:a6G K C i bd t F ρ G=bd (fun ρ1 C' G1=>PySem.W.subIn K (.ref C') (.ref C)=some true∧∀ x,G1 x=none→t { nx:=fun ρ2 G2=>F.nx (zX ρ2 i) G2,rt:=F.rt,bk:=fun ρ2 G2=>F.bk (zX ρ2 i) G2,ct:=fun ρ2 G2=>F.ct (zX ρ2 i) G2 } (tW ρ1 i (.ref x)) (aL G1 x (.z9 C'))) F ρ G:=rfl
theorem x_c {d:D}:aV d ρ G R=R d G:=rfl
theorem aoW {d:D}:aB 0 (some d :: ρ) G R=R d G:=rfl
theorem aoX {o:Option D} {n:Nat}:aB (n+1) (o :: ρ) G R=aB n ρ G R:=rfl
theorem af4 {o:Option D} {d:D}:tW (o :: ρ) 0 d=some d :: ρ:=rfl
theorem af5 {o:Option D} {n:Nat} {d:D}:tW (o :: ρ) (n+1) d=o :: tW ρ n d:=rfl
theorem af6 {o:Option D}:zX (o :: ρ) 0=none :: ρ:=rfl
theorem af7 {o:Option D} {n:Nat}:zX (o :: ρ) (n+1)=o :: zX ρ n:=rfl
theorem axO {r:R3}:aG r ta tb ρ G R=ta ρ G fun x G1=>tb ρ G1 fun y G2=>r x y G2 R:=rfl
theorem aoY {Q:Bool→Gp→Prop}:aZ te ρ G Q=te ρ G fun x G1=>onB x fun k=>Q k G1:=rfl
theorem atV {Q:Bool→Gp→Prop}:a2Q tt tt' ρ G Q=tt ρ G fun c G1=>if c=true then tt' ρ G1 Q else Q false G1:=rfl
theorem axP {Q:Bool→Gp→Prop}:a1U tt tt' ρ G Q=tt ρ G fun c G1=>if c=true then Q true G1 else tt' ρ G1 Q:=rfl
theorem atX {Q:Bool→Gp→Prop}:yC tt ρ G Q=tt ρ G fun c G1=>Q (!c) G1:=rfl
theorem aoZ:uP ta tb ρ G R=ta ρ G fun x G1=>onB x fun k=>if k=true then tb ρ G1 R else R (.bl false) G1:=by
  unfold uP;congr 1;funext x G1
  cases x with
  | bl k=>cases k <;> rfl
  | _=>rfl
theorem ap0:a4H ta ρ G R=ta ρ G fun x G1=>onB x fun k=>R (.bl (!k)) G1:=rfl
theorem atY:a9M ta ρ G R=ta ρ G fun x G1=>onI x fun k=>R (.int (-k)) G1:=rfl
theorem atZ:abH tt ta tb ρ G R=tt ρ G fun c G1=>if c=true then ta ρ G1 R else tb ρ G1 R:=rfl
theorem au0 {Q:List D→Gp→Prop}:aC ρ G Q=Q [] G:=rfl
theorem ap1 {Q:List D→Gp→Prop}:aA te tA ρ G Q=te ρ G fun x G1=>tA ρ G1 fun xs G2=>Q (x :: xs) G2:=rfl
theorem au1:yD tA ρ G R=tA ρ G fun xs G1=>u5 xs∧R (.tup xs) G1:=rfl
theorem au2:fH tA ρ G R=tA ρ G fun xs G1=>u5 xs∧∀ p,G1 p=none→R (.ref p) (aL G1 p (.lst xs)):=rfl
theorem x_call {sp:rA} {ex:aN→aX}:bY sp ex tA ρ G R=tA ρ G fun ds G1=>sp ds G1 R (ex ρ):=rfl
theorem axQ {r:List D→Gp→dG→Prop}:iD r tA ρ G R=tA ρ G fun xs G1=>r xs G1 R:=rfl
theorem x_m {T:String} {r:RM3}:tM3 T r te tA ρ G R=te ρ G fun x G1=>yU T G1 x∧tA ρ G1 fun xs G2=>r x xs G2 R:=rfl
theorem axR {T:String} {r:RM3}:adT T r te ρ G R=te ρ G fun x G1=>yU T G1 x∧r x [] G1 R:=rfl
theorem ajE {z:Str}:yU "str" G (.str z)=True:=eq_true rfl
theorem w5 {p:Addr}:yU "list" G (.ref p)=((bH G p).isSome=true):=by unfold yU;simp
theorem af8 {Q:Option Int→Gp→Prop}:bZ ρ G Q=Q none G:=rfl
theorem ap2 {Q:Option Int→Gp→Prop}:eV te ρ G Q=te ρ G fun x G1=>onI x fun k=>Q (some k) G1:=rfl
theorem ajF {tl th:TO3}:cU te tl th ρ G R=te ρ G fun x G1=>tl ρ G1 fun lo G2=>th ρ G2 fun hi G3=>yS x lo hi G3 R:=rfl
theorem af9 {i j:Int}:bC (.int i) (.int j) G R=R (.int (i+j)) G:=rfl
theorem afA {i j:Str}:bC (.str i) (.str j) G R=(i.length+j.length≤sizeLine∧R (.str (i++j)) G):=rfl
theorem au3 {i j:Int}:a2R (.int i) (.int j) G R=R (.int (i - j)) G:=rfl
theorem alC {i j:Int}:vN (.int i) (.int j) G R=(acX i j∧R (.int (i * j)) G):=rfl
theorem ap3 {i j:Int}:iH (.int i) (.int j) G R=(am3 i j∧R (.int (i / j)) G):=rfl
theorem au4 {i j:Int}:dB (.int i) (.int j) G R=(0 < j∧R (.int (i % j)) G):=rfl
theorem x_lt {i j:Int}:ahQ (.int i) (.int j) G R=R (.bl (decide (i < j))) G:=rfl
theorem axS {i j:Int}:adD (.int i) (.int j) G R=R (.bl (decide (j < i))) G:=rfl
theorem ajG {i j:Int}:lR (.int i) (.int j) G R=R (.bl (i == j)) G:=by
  show (aM 20 (.int i)=true∧aM 20 (.int j)=true∧_)=_
  simp [aM,eqP]
theorem ajH {i j:Str}:lR (.str i) (.str j) G R=R (.bl (i == j)) G:=by
  show (aM 20 (.str i)=true∧aM 20 (.str j)=true∧_)=_
  simp [aM,eqP]
theorem aaD {xs ys:List D}:lR (.tup xs) (.tup ys) G R=(aM 20 (.tup xs)=true∧aM 20 (.tup ys)=true∧R (.bl (eqP (.tup xs) (.tup ys))) G):=rfl
theorem ajI {z:Str}:oF [.str z] G R=(z.length≤sizeLine∧R (.int z.length) G):=rfl
theorem pX {q:Addr} {ds:List D} (h:bH G q=some ds):oF [.ref q] G R=R (.int ds.length) G:=by unfold oF;simp only [h]
theorem a4Z {xs:List D} {i:Int} {d:D} (h:uL xs i=some d):bR (.tup xs) (.int i) G R=R d G:=by unfold bR;simp only [h]
theorem ap4 {z:Str} {i:Int} {c:Nat} (h:uL z.cps.toList i=some c):bR (.str z) (.int i) G R=(z.length≤sizeLine∧R (.str ⟨#[c]⟩) G):=by unfold bR;simp only [h]
theorem rY {p:Addr} {xs:List D} {i:Int} {d:D} (e:bH G p=some xs) (h:uL xs i=some d):bR (.ref p) (.int i) G R=R d G:=by unfold bR;simp only [e,h]
theorem yI:aD K [.non,.ty "str"] G R=R (.bl false) G:=by
  show ("str" ∈ nW∧R (.bl (L2.subB "NoneType" "str")) G)=_
  rw [show L2.subB "NoneType" "str" = false from by decide];simp [nW]
theorem a0F {b:Bool}:aD K [(.bl b),.ty "str"] G R=R (.bl false) G:=by
  show ("str" ∈ nW∧R (.bl (L2.subB "bool" "str")) G)=_
  rw [show L2.subB "bool" "str" = false from by decide];simp [nW]
theorem a74 {i:Int}:aD K [(.int i),.ty "int"] G R=R (.bl true) G:=by
  show ("int" ∈ nW∧R (.bl (L2.subB "int" "int")) G)=_
  rw [show L2.subB "int" "int" = true from by decide];simp [nW]
theorem a5A {i:Int}:aD K [(.int i),.ty "bool"] G R=R (.bl false) G:=by
  show ("bool" ∈ nW∧R (.bl (L2.subB "int" "bool")) G)=_
  rw [show L2.subB "int" "bool" = false from by decide];simp [nW]
theorem yJ {i:Int}:aD K [(.int i),.ty "str"] G R=R (.bl false) G:=by
  show ("str" ∈ nW∧R (.bl (L2.subB "int" "str")) G)=_
  rw [show L2.subB "int" "str" = false from by decide];simp [nW]
theorem a75 {z:Str}:aD K [(.str z),.ty "str"] G R=R (.bl true) G:=by
  show ("str" ∈ nW∧R (.bl (L2.subB "str" "str")) G)=_
  rw [show L2.subB "str" "str" = true from by decide];simp [nW]
theorem a1Z {xs:List D}:aD K [(.tup xs),.ty "tuple"] G R=R (.bl true) G:=by
  show ("tuple" ∈ nW∧R (.bl (L2.subB "tuple" "tuple")) G)=_
  rw [show L2.subB "tuple" "tuple" = true from by decide];simp [nW]
theorem nA {q C C':Addr} {b:Bool} (h:G q=some (.z9 C)) (e:ExC K C) (k:PySem.W.kitOne K (.ref C) (.ref C')=some b) (z:R (.bl b) G):aD K [.ref q,.ref C'] G R:=by
  unfold aD
  simp only [exD,h]
  exact ⟨b,e,k,z⟩
theorem ajJ {q C:Addr} {n:String} {b:Bool} (h:G q=some (.z9 C)) (e:ExC K C) (k:PySem.W.kitOne K (.ref C) (.type n)=some b) (z:R (.bl b) G):aD K [.ref q,.ty n] G R:=by
  unfold aD
  simp only [exD,tyD,h]
  exact ⟨b,e,k,z⟩
end
theorem aQ {G:Gp} {p:Addr} {xs:List D} (h:G p=some (.lst xs)):bH G p=some xs:=by unfold bH;rw [h]
theorem rZ {G:Gp} {p:Addr} {xs:List D} (h:G p=some (.rol xs)):bH G p=some xs:=by unfold bH;rw [h]
theorem dR {G:Gp} {p:Addr} {xs:List D}:bH (aL G p (.lst xs)) p=some xs:=aQ aF
def kn (G:Gp) (d:D):Prop:=(tyD G d).isSome=true
section
variable {G:Gp} {R:dG} {K:Fg} {q:Addr}
theorem ap5 {x:D} {T n:String} (e:tyD G x=some T) (hn:n∈nW):aD K [x,.ty n] G R=R (.bl (L2.subB T n)) G:=by
  show (match tyD G x with
    | some T=>n∈nW∧R (.bl (L2.subB T n)) G
    | none=>_)=_
  rw [e]
  exact propext ⟨fun h=>h.2,fun h=>⟨hn,h⟩⟩
theorem at0 {α:Type} {a:α} {xs:List α}:uL (a :: xs) 0=some a:=by
  unfold uL ixN
  simp
theorem atS {α:Type} {a:α} {xs:List α} {n:Nat}:uL (a :: xs) ((n+1:Nat):Int)=uL xs (n:Int):=by
  unfold uL ixN
  have h0:(0:Int)≤((n+1:Nat):Int):=by omega
  have h1:(0:Int)≤(n:Int):=by omega
  rw [if_pos h0,if_pos h1]
  by_cases h:n < xs.length
  · have a1:((n+1:Nat):Int) < ((a :: xs).length:Int):=by simp;omega
    have a2:(n:Int) < (xs.length:Int):=by omega
    rw [if_pos a1,if_pos a2]
    simp
  · have a1:¬ ((n+1:Nat):Int) < ((a :: xs).length:Int):=by simp;omega
    have a2:¬ (n:Int) < (xs.length:Int):=by omega
    rw [if_neg a1,if_neg a2]
    rfl
theorem o7 {α:Type} {xs:List α} {n:Nat}:uL xs (n:Int)=xs[n]?:=by
  unfold uL ixN
  rw [if_pos (by omega)]
  by_cases h:n < xs.length
  · rw [if_pos (by omega)];simp
  · rw [if_neg (by omega)]
    simp at h
    simp [h]
theorem ajK {a:D} {xs:List D}:bR (.tup (a :: xs)) (.int 0) G R=R a G:=a4Z at0
theorem ajL {a b:D} {xs:List D}:bR (.tup (a :: b :: xs)) (.int 1) G R=R b G:=a4Z (i:=((1:Nat):Int)) (by rw [atS,o7];rfl)
theorem ajM {a b c:D} {xs:List D}:bR (.tup (a :: b :: c :: xs)) (.int 2) G R=R c G:=a4Z (i:=((2:Nat):Int)) (by rw [atS,o7];rfl)
end
theorem a3L (x:Str) {a b:Nat} (hab:a≤b) (hb:b≤x.length):Txt.slice x (some (a:Int)) (some (b:Int))=⟨((x.cps.toList.drop a).take (b - a)).toArray⟩:=by
  exact PySem.StrLaws.sliceText_nat x hab hb
theorem a8I (x:Str) {a:Nat} (h:a≤x.length):Txt.slice x (some (a:Int)) none=⟨(x.cps.toList.drop a).toArray⟩:=by
  have e:Txt.slice x (some (a:Int)) none=Txt.slice x (some (a:Int)) (some (x.length:Int)):=by
    unfold Txt.slice
    rw [PySem.StrLaws.sliceIdx_none_hi]
  rw [e,a3L x h (Nat.le_refl _)]
  congr 2
  apply List.take_of_length_le
  simp [Str.length]
theorem afB (x:Str) {b:Nat} (h:b≤x.length):Txt.slice x none (some (b:Int))=⟨(x.cps.toList.take b).toArray⟩:=by
  have e:Txt.slice x none (some (b:Int))=Txt.slice x (some ((0:Nat):Int)) (some (b:Int)):=by
    unfold Txt.slice
    rw [PySem.StrLaws.sliceIdx_none_lo]
    rfl
  rw [e,a3L x (Nat.zero_le _) h]
  simp
section
variable {G:Gp} {R:dG} {K:Fg} {q:Addr}
end
section
variable {G:Gp} {R:dG} {K:Fg}
theorem a8J {a b:Addr} {xs ys:List D} (h1:bH G a=some xs) (h2:bH G b=some ys) (s1:xs.all (aM 20)=true) (s2:ys.all (aM 20)=true):lR (.ref a) (.ref b) G R=R (.bl (jE xs ys)) G:=by
  show eqG G (.ref a) (.ref b) (fun b=>R (.bl b) G)=_
  unfold eqG
  simp only [h1,h2,s1,s2,true_and]
theorem a0G {a b:Addr} {xs ys:List D} (h1:bH G a=some xs) (h2:bH G b=some ys) (s1:xs.all (aM 20)=true) (s2:ys.all (aM 20)=true):adM (.ref a) (.ref b) G R=R (.bl (!jE xs ys)) G:=by
  show eqG G (.ref a) (.ref b) (fun b=>R (.bl (!b)) G)=_
  unfold eqG
  simp only [h1,h2,s1,s2,true_and]
end
section
variable {G:Gp} {R:dG} {K:Fg} {i j:Int}
theorem ap6 (h:-18446744073709551616 < i∧i < 18446744073709551616):vN (.int i) (.int j) G R=R (.int (i * j)) G:=by
  rw [alC]
  exact propext ⟨fun z=>z.2,fun z=>⟨.inl ⟨by have:=h.1;omega,by have:=h.2;omega⟩,z⟩⟩
theorem ap7 (h:-18446744073709551616 < j∧j < 18446744073709551616):vN (.int i) (.int j) G R=R (.int (i * j)) G:=by
  rw [alC]
  exact propext ⟨fun z=>z.2,fun z=>⟨.inr ⟨by have:=h.1;omega,by have:=h.2;omega⟩,z⟩⟩
theorem ajN (h:0 < j∧j < 1073741824):iH (.int i) (.int j) G R=R (.int (i / j)) G:=by
  rw [ap3]
  exact propext ⟨fun z=>z.2,fun z=>⟨h,z⟩⟩
theorem ap8 (h:0 < j):dB (.int i) (.int j) G R=R (.int (i % j)) G:=by
  rw [au4]
  exact propext ⟨fun z=>z.2,fun z=>⟨h,z⟩⟩
end
section
variable {G:Gp} {R:dG} {K:Fg} {i j:Int}
theorem afC {α:Type} {xs:List α} {i:Int} (h0:0≤i) (h1:i < (xs.length:Int)):∃ d,uL xs i=some d∧d∈xs:=by
  obtain ⟨n,rfl⟩:=Int.eq_ofNat_of_zero_le h0
  have hn:n < xs.length:=by omega
  exact ⟨xs[n],by rw [o7];simp [hn],List.getElem_mem hn⟩
end
section
variable {P Q:Prop} {b c:Bool} {α:Type} {a:α} {l:List α}
theorem a8K:(True∧P)=P:=true_and P
theorem a8L:(!true)=false:=rfl
theorem a76:(!false)=true:=rfl
theorem afD:((!b)=true)=(b=false):=by cases b <;> simp
theorem ac2:(if True then P else Q)=P:=if_true ..
theorem a8M:(if False then P else Q)=Q:=if_false ..
theorem au5:(false=true)=False:=by simp
theorem au6:(true=false)=False:=by simp
theorem a8N:(a :: l).length=l.length+1:=List.length_cons
theorem ac3:([]:List α).length=0:=rfl
theorem ac4 {β:Type} {f:α→β}:(l.map f).length=l.length:=List.length_map ..
end
end L5
namespace L6
open PySem PySem.Spec PyProof.Rows L2 L4 L5
def ajO (x:D) (G:Gp) (Q:Src→Gp→Prop):Prop:=match x with
  | .ref p=>(match bH G p with
    | some xs=>Q (.lst p xs) G
    | none=>False)
  | .tup xs=>Q (.imm xs) G
  | .str z=>Q (.imm (signs z)) G
  | _=>False
def afE (x:D) (G:Gp) (Q:Src→Gp→Prop):Prop:=match x with
  | .ref p=>(match bH G p with
    | some xs=>Q (.lst p xs) G
    | none=>False)
  | .str z=>Q (.imm (signs z)) G
  | .tup xs=>xs.all scD=true∧∀ a,(G a=none∨G a=some (.tpl xs))→Q (.tpl a xs) (aL G a (.tpl xs))
  | _=>False
def alD (xs:List D) (G:Gp) (Q:Src→Gp→Prop):Prop:=match xs with
  | [.int j]=>-(2 ^ 62)≤j∧j < 2 ^ 62∧Q (.imm (a1X 0 j)) G
  | _=>False
section
variable {te:cB} {ta:n6} {ρ:aN} {G:Gp} {Q:Src→Gp→Prop} {p:Addr} {xs:List D} {z:Str} {i j:Int}
theorem ajP:uU te ρ G Q=te ρ G fun x G1=>ajO x G1 Q:=rfl
theorem au7:a8B te ρ G Q=te ρ G fun x G1=>afE x G1 Q:=rfl
theorem ap9:xB ta ρ G Q=ta ρ G fun xs G1=>alD xs G1 Q:=rfl
theorem a0H (h:bH G p=some xs):ajO (.ref p) G Q=Q (.lst p xs) G:=by unfold ajO;simp only [h]
theorem afF:ajO (.tup xs) G Q=Q (.imm xs) G:=rfl
theorem xH (h:bH G p=some xs):afE (.ref p) G Q=Q (.lst p xs) G:=by unfold afE;simp only [h]
theorem ajQ (h:-4611686018427387904≤j∧j < 4611686018427387904):alD [.int j] G Q=Q (.imm (a1X 0 j)) G:=by
  show (_∧_∧_)=_
  exact propext ⟨fun z=>z.2.2,fun z=>⟨by omega,by omega,z⟩⟩
end
def aaE (dv:D→Option (List D)) (src:Src) (tc:uM) (te:cB) (ρ:aN) (G1:Gp) (R:dG):Prop:=src.items.length < sizeLine∧∀ p,G1 p=none→∃ P:Nat→List D→Gp→Prop,P 0 [] (aL G1 p (.lst [])) ∧
  (∀ k ds G,k≤src.items.length→P k ds G→src.ok G∧G p=some (.lst ds)∧ds.length≤k) ∧
  (∀ k d ds G,src.items[k]?=some d→P k ds G→∃ ys,dv d=some ys∧tc (ys.map some++ρ) G fun b G2=>if b=true then te (ys.map some++ρ) G2 fun y G3=>G3 p=some (.lst ds)∧P (k+1) (ds++[y]) (aL G3 p (.lst (ds++[y]))) else P (k+1) ds G2) ∧
  ∀ ds G,P src.items.length ds G→∃ G0,Le G0 G∧R (.ref p) G0
theorem apA {dv:D→Option (List D)} {ti:TI3} {tc:uM} {te:cB} {ρ:aN} {G:Gp} {R:dG}:vV dv ti tc te ρ G R=ti ρ G fun src G1=>aaE dv src tc te ρ G1 R:=rfl
theorem a5B {G G':Gp} (l:Le G G') {p:Addr} {xs:List D} (h:bH G p=some xs):bH G' p=some xs:=by
  unfold bH at h ⊢
  split at h
  · rename_i e;rw [l _ _ e];exact h
  · rename_i e;rw [l _ _ e];exact h
  · cases h
theorem au8 {G G':Gp} (l:Le G G') {src:Src} (h:src.ok G):src.ok G':=by
  cases src with
  | lst p xs=>exact a5B l h
  | imm xs=>trivial
  | zip p q xs ys=>exact ⟨a5B l h.1,a5B l h.2⟩
  | itm p o kvs=>exact l _ _ h
  | key p o t kvs=>exact l _ _ h
  | tpl p xs=>exact l _ _ h
  | enu p xs=>exact l _ _ h
theorem apB {G G':Gp} {p:Addr} {o o':GO} (l:Le (aL G p o) G'):Le (aL G p o') (aL G' p o'):=fun a u e=>by
  by_cases h:a=p
  · subst h;rw [aF] at e ⊢;exact e
  · rw [cG h] at e ⊢
    exact l a u (by rw [cG h];exact e)
theorem a77 {dv:D→Option (List D)} {src:Src} {tc:uM} {te:cB} {ρ:aN} {G:Gp} {R:dG} (v:D→List D) (c:D→Bool) (f:D→D) (hl:src.items.length < sizeLine) (hok:src.ok G) (hv:∀ d∈src.items,dv d=some (v d))
    (hc:∀ d∈src.items,∀ G',Le G G'→∀ Q:Bool→Gp→Prop,(∀ G'',Le G' G''→Q (c d) G'')→tc ((v d).map some++ρ) G' Q)
    (he:∀ d∈src.items,c d=true→∀ G',Le G G'→∀ Q:D→Gp→Prop,(∀ G'',Le G' G''→Q (f d) G'')→te ((v d).map some++ρ) G' Q)
    (h:∀ p,G p=none→R (.ref p) (aL G p (.lst ((src.items.filter c).map f)))):aaE dv src tc te ρ G R:=by
  refine ⟨hl,fun p hp=>⟨fun k ds G'=>ds=((src.items.take k).filter c).map f∧Le (aL G p (.lst ds)) G',⟨rfl,.refl _⟩,fun k ds G' hk ⟨e,l⟩=>?_,fun k d ds G' hd ⟨e,l⟩=>?_,fun ds G' ⟨e,l⟩=>?_⟩⟩
  · refine ⟨au8 ((Le.new hp).trans l) hok,l p _ aF,?_⟩
    rw [e,List.length_map]
    exact Nat.le_trans (List.length_filter_le _ _) (by rw [List.length_take];omega)
  · have hm:d∈src.items:=List.mem_of_getElem? hd
    have ht:src.items.take (k+1)=src.items.take k++[d]:=by
      rw [List.take_succ,hd];rfl
    refine ⟨v d,hv d hm,hc d hm G' ((Le.new hp).trans l) _ fun G2 l2=>?_⟩
    cases hcd:c d with
    | true =>
      rw [if_pos rfl]
      refine he d hm hcd G2 (((Le.new hp).trans l).trans l2) _ fun G3 l3=>?_
      have l4:=(l.trans l2).trans l3
      refine ⟨l4 p _ aF,?_,apB l4⟩
      rw [ht,List.filter_append,List.map_append,← e]
      simp [hcd]
    | false =>
      rw [if_neg (by decide)]
      refine ⟨?_,l.trans l2⟩
      rw [ht,List.filter_append,List.map_append,← e]
      simp [hcd]
  · rw [List.take_length] at e
    subst e
    exact ⟨_,l,h p hp⟩
theorem aaF {src:Src} {tc:uM} {te:cB} {ρ:aN} {G:Gp} {R:dG} (c:D→Bool) (f:D→D) (hl:src.items.length < sizeLine) (hok:src.ok G)
    (hc:∀ d∈src.items,∀ G',Le G G'→∀ Q:Bool→Gp→Prop,(∀ G'',Le G' G''→Q (c d) G'')→tc (some d :: ρ) G' Q)
    (he:∀ d∈src.items,c d=true→∀ G',Le G G'→∀ Q:D→Gp→Prop,(∀ G'',Le G' G''→Q (f d) G'')→te (some d :: ρ) G' Q)
    (h:∀ p,G p=none→R (.ref p) (aL G p (.lst ((src.items.filter c).map f)))):aaE a89 src tc te ρ G R:=a77 (fun d=>[d]) c f hl hok (fun _ _=>rfl) hc he h
theorem comp_map {src:Src} {te:cB} {ρ:aN} {G:Gp} {R:dG} (f:D→D) (hl:src.items.length < sizeLine) (hok:src.ok G)
    (he:∀ d∈src.items,∀ G',Le G G'→∀ Q:D→Gp→Prop,(∀ G'',Le G' G''→Q (f d) G'')→te (some d :: ρ) G' Q)
    (h:∀ p,G p=none→R (.ref p) (aL G p (.lst (src.items.map f)))):aaE a89 src xD te ρ G R :=
  aaF (fun _=>true) f hl hok (fun d _ G' _ Q h=>h G' (.refl _)) (fun d hd _=>he d hd) fun p hp=>by
    have:src.items.filter (fun _=>true)=src.items:=List.filter_eq_self.mpr fun _ _=>rfl
    rw [this]
    exact h p hp
def afG (src:Src) (tg:TG3) (tb:bK) (F:iG) (ρ:aN) (G1:Gp):Prop:=∃ P:Nat→aN→Gp→Prop,P 0 ρ G1∧(∀ k ρ G,k≤src.items.length→P k ρ G→src.ok G) ∧
  (∀ k d ρ G,src.items[k]?=some d→P k ρ G→tg d ρ fun ρ2=>tb { F with nx:=P (k+1),ct:=P (k+1),bk:=F.nx } ρ2 G)∧∀ ρ G,P src.items.length ρ G→F.nx ρ G
theorem afH {ti:TI3} {tg:TG3} {tb:bK} {F:iG} {ρ:aN} {G:Gp}:rR ti tg tb F ρ G=ti ρ G fun src G1=>afG src tg tb F ρ G1:=rfl
theorem ajR {i:Nat} {d:D} {ρ:aN} {Q:aN→Prop}:rQ i d ρ Q=Q (tW ρ i d):=rfl
theorem aaG {i:Nat} {is:List Nat} {d:D} {ds:List D} {ρ:aN}:a3A ρ (i :: is) (d :: ds)=a3A (tW ρ i d) is ds:=rfl
theorem afI {tg:TG3} {tb:bK} {F:iG} {ρ:aN} {G:Gp} {j:Int} (P:Nat→aN→Gp→Prop) (h0:P 0 ρ G)
    (hb:∀ (k:Nat) ρ G,(k:Int) < j→P k ρ G→tg (.int k) ρ fun ρ2=>tb { F with nx:=P (k+1),ct:=P (k+1),bk:=F.nx } ρ2 G) (he:∀ ρ G,P j.toNat ρ G→F.nx ρ G):afG (.imm (a1X 0 j)) tg tb F ρ G:=by
  have hlen:(Src.imm (a1X 0 j)).items.length=j.toNat:=by simp [Src.items,a1X]
  refine ⟨P,h0,fun _ _ _ _ _=>trivial,fun k d ρ G hd p=>?_,fun ρ G p=>he ρ G (hlen ▸ p)⟩
  have hk:k < j.toNat:=by rw [← hlen];exact (List.getElem?_eq_some_iff.mp hd).1
  have e:d = .int k:=by
    have:(a1X 0 j)[k]?=some d:=hd
    unfold a1X at this
    rw [List.getElem?_map,List.getElem?_range (by omega)] at this
    simp at this
    exact this.symm
  subst e
  exact hb k ρ G (by omega) p
theorem a0I {tg:TG3} {tb:bK} {F:iG} {ρ:aN} {G:Gp} {q:Addr} {xs:List D} (P:Nat→aN→Gp→Prop) (h0:P 0 ρ G) (hs:∀ k ρ G,P k ρ G→bH G q=some xs)
    (hb:∀ k d ρ G,xs[k]?=some d→P k ρ G→tg d ρ fun ρ2=>tb { F with nx:=P (k+1),ct:=P (k+1),bk:=F.nx } ρ2 G) (he:∀ ρ G,P xs.length ρ G→F.nx ρ G):afG (.lst q xs) tg tb F ρ G :=
  ⟨P,h0,fun k ρ G _ p=>hs k ρ G p,hb,he⟩
section
variable {G:Gp} {R:dG}
theorem a0J {p:Addr} {ds:List D} {d:D} (h:G p=some (.lst ds)) (hl:ds.length < sizeLine):lU (.ref p) [d] G R=R .non (aL G p (.lst (ds++[d]))):=by
  unfold lU
  simp only [h,hl,true_and]
theorem aaH {p b:Addr} {ds es:List D} (h:G p=some (.lst ds)) (h2:G b=some (.lst es)) (hl:ds.length+es.length≤sizeLine):bC (.ref p) (.ref b) G R=∀ q,G q=none→R (.ref q) (aL G q (.lst (ds++es))):=by
  unfold bC
  simp only [h,h2,hl,true_and]
theorem afJ {ds:List D}:zZ [.tup ds] G R=∀ l,G l=none→R (.ref l) (aL G l (.lst ds)):=rfl
end
theorem a0K {G:Gp} {a p:Addr} {o:GO} (h:G a=some o) (n:G p=none):a≠p:=fun e=>by subst e;rw [h] at n;cases n
theorem len_app {x y:Str}:(x++y).length=x.length+y.length:=by
  show (x.cps++y.cps).size=x.cps.size+y.cps.size
  simp
theorem iK {G:Gp} {R:dG} {i j:Str} (h:i.length+j.length≤sizeLine):bC (.str i) (.str j) G R=R (.str (i++j)) G:=by
  rw [afA]
  exact propext ⟨fun z=>z.2,fun z=>⟨h,z⟩⟩
theorem a0L {G:Gp} {R:dG} {z:Str} {i:Int} (hz:z.length≤sizeLine) (h0:0≤i) (h1:i < (z.length:Int)) (h:∀ c∈z.cps.toList,R (.str ⟨#[c]⟩) G):bR (.str z) (.int i) G R:=by
  obtain ⟨c,e,m⟩:=afC (xs:=z.cps.toList) h0 (by simpa [Str.length] using h1)
  rw [ap4 e]
  exact ⟨hz,h c m⟩
section
variable {G:Gp} {R:dG} {F:iG} {ρ:aN}
end
end L6
namespace L7
open PySem PySem.Spec PyProof.Rows L2 L4 L5 L6
section
variable {ρ:aN} {G:Gp} {R:dG} {F:iG} {p:Addr}
end
end L7
namespace L8
open PySem PySem.Spec PyProof.Rows L2 L4 L5 L6 L7
section
variable {ρ:aN} {G:Gp} {R:dG} {F:iG} {p C:Addr} {f m:Str} {fs:List (Str×D)}
theorem ajS {to te tf:cB}:zE to te tf ρ G R=to ρ G fun x G1=>xF x G1∧te ρ G1 fun y G2=>tf ρ G2 fun z G3=>yF x y G3 fun _ _ kvs k=>R ((qY kvs k).getD z) G3:=rfl
theorem afK {t:Bool} {kvs:List (DK×D)} (h:G p=some (.tV t kvs)):xF (.ref p) G=True:=by
  unfold L2.xF
  simp only [h]
theorem afL {t:Bool} {kvs:List (DK×D)} {y:D} {k:DK} {P:Addr→Bool→List (DK×D)→DK→Prop} (h:G p=some (.tV t kvs)) (hk:aeB y=some k) (ht:a3E k=t):yF (.ref p) y G P=P p t kvs k:=by
  unfold L2.yF
  simp only [h,hk]
  exact propext ⟨fun z=>z.2,fun z=>⟨ht,z⟩⟩
end
end L8
namespace L9
open PySem PySem.Spec PyProof.Rows L2 L4 L5 L6 L7 L8
section
variable {ρ:aN} {G:Gp} {R:dG} {F:iG} {p:Addr}
end
end L9
namespace L10
open PySem PySem.Spec PyProof.Rows L2 L4 L5 L6
section
variable {ρ:aN} {G:Gp} {F:iG} {p:Addr} {al t:Bool} {od:Obj} {kvs:List (DK×D)} {Q:Src→Gp→Prop} {tg:TG3} {tb:bK}
end
end L10
namespace L11
open PySem PySem.Spec PyProof.Rows L2 L4 L5 L6
section
variable {ρ:aN} {G:Gp} {F:iG} {p:Addr} {xs:List D} {Q:Src→Gp→Prop} {tg:TG3} {tb:bK} {R:dG}
end
end L11
namespace L12
open PySem PySem.Spec PyProof.Rows L2 L4 L5 L6
section
variable {G:Gp} {R:dG} {p:Addr}
theorem ajT {j:Str}:zF (.str j) [] G R=(Builtin.Str.tooLong (Txt.upper j).length=false∧R (.str (Txt.upper j)) G):=rfl
theorem afM {j y:Str}:oH (.str j) [.str y] G R=R (.bl (Txt.startswith j y)) G:=rfl
theorem strs_map:∀ (ys:List Str),nC (ys.map D.str)=some ys
  | []=>rfl
  | y :: r=>by
    show (nC (r.map D.str)).map (y :: ·)=_
    rw [strs_map r]
    rfl
theorem count_at {ys:List Str} {k:Str} (h:bH G p=some (ys.map D.str)):tL (.ref p) [.str k] G R=R (.int ((ys.countP (· == k):Nat):Int)) G:=by
  unfold L2.tL
  simp only [h,strs_map]
theorem ajU {ds:List D} {d:D} {j:Nat} (h:G p=some (.lst ds)) (hd:ds[j]?=some d) (z:R d (aL G p (.lst (ds.eraseIdx j)))):xG (.ref p) [.int (j:Int)] G R:=by
  unfold L2.xG L2.a9S
  simp only [h]
  exact ⟨j,d,rfl,hd,z⟩
theorem ac5 {ys:List Str} {k:Str} (j:Nat) (h1:ys[j]?=some k) (h2:∀ m,m < j→ys[m]?≠some k) (z:R (.int j) G):j5 (.tup (ys.map D.str)) [.str k] G R:=by
  unfold L2.j5
  simp only [strs_map]
  exact ⟨j,h1,h2,z⟩
end
end L12
namespace Law
open PySem PySem.Spec PyProof.Rows L2 L4 PySem.W
def top (i:Nat):Stmt:=PySem.Challenge.pw_depot_k41_rules_read.main.body.getD i (.Pass ⟨0,0,0,0⟩)
abbrev wA:Stmt:=top 9
abbrev afN:Stmt:=top 10
abbrev a0M:Stmt:=top 11
abbrev cX:Stmt:=top 12
abbrev sE:Stmt:=top 14
abbrev wB:Stmt:=top 15
abbrev wC:Stmt:=top 16
abbrev sG:Stmt:=top 17
abbrev sH:Stmt:=top 18
abbrev yK:Stmt:=top 19
abbrev yL:Stmt:=top 20
abbrev sI:Stmt:=top 21
abbrev a78:Stmt:=top 22
set_option genInjectivity false in
structure bO where
  pY:Addr
  fX:FuncData
  a8O:Addr
  a0N:FuncData
  uW:Addr
  lY:FuncData
  xJ:Addr
  kZ:FuncData
  lZ:Addr
  dU:FuncData
  pZ:Addr
  fY:FuncData
  qC:Addr
  fZ:FuncData
  m7:Addr
  dW:FuncData
  m8:Addr
  dX:FuncData
  sJ:Addr
  j6:FuncData
  sO:Addr
  j7:FuncData
  m9:Addr
  dY:FuncData
  yM:Addr
  afO:FuncData
  cQ:Addr
  j8:Addr
  j9:Addr
  dZ:Addr
  aW:Addr
  nD:Addr
  cY:Addr
  oM:Addr
def Bse (base:Heap) (mg:Str→Option Value) (A:bO):Prop:=base.BuiltinsAt mg A.cY∧CodeHd base A.oM A.cY
def qD (K:Fg) (A:bO) (ex:aN→aX):bK :=
    (bU (yD (aA (aG bR (aB 0) (aV (.int 3))) (aA (aG bR (aB 0) (aV (.int 4))) (aA (aG bR (aB 0) (aV (.int 2))) (aA (aG bR (aG bR (aB 0) (aV (.int 0))) (aV (.int 0))) (aA (aG bR (aG bR (aB 0) (aV (.int 0))) (aV (.int 1))) (aA (aG bR (aB 0) (aV (.int 1))) aC))))))))
def iY (K:Fg) (A:bO):rA:=spD 1 1 fun EX=>qD K A (fun _=>EX)
def a5C:CB:=(.cons (.ret (.tup (.cons (.ix (.var 0) (.con (.int 3))) (.cons (.ix (.var 0) (.con (.int 4))) (.cons (.ix (.var 0) (.con (.int 2))) (.cons (.ix (.ix (.var 0) (.con (.int 0))) (.con (.int 0))) (.cons (.ix (.ix (.var 0) (.con (.int 0))) (.con (.int 1))) (.cons (.ix (.var 0) (.con (.int 1))) .nil)))))))) .nil)
def a5D (K:Fg) (A:bO):SI:=⟨["piece"],[true],[true],[false],[],[],true,false⟩
def a8P (K:Fg) (A:bO) (ex:aN→aX):bK :=
    (bU (abH (aZ (tM3 "str" oH (aB 0) (aA (aV (.str "-")) aC))) (cU (aB 0) (eV (aV (.int 1))) bZ) (aB 0)))
def tM (K:Fg) (A:bO):rA:=spD 1 1 fun EX=>a8P K A (fun _=>EX)
def apC:CB:=(.cons (.ret (.ifx (.val (.meth .starts (.var 0) (.cons (.con (.str "-")) .nil))) (.sl (.var 0) (.some (.con (.int 1))) .none) (.var 0))) .nil)
def apD (K:Fg) (A:bO):SI:=⟨["word"],[true],[true],[false],[],[],true,false⟩
def o8 (K:Fg) (A:bO) (ex:aN→aX):bK :=
    (dH (a1U (aZ (aG pR (aB 3) (aV (.tup [.str "due",.str "came",.str "amount",.str "aisle",.str "place",.str "lot"])))) (aZ (aG adD (tM3 "list" tL (aB 2) (aA (aB 3) aC)) (aV (.int 1))))) (tH ex A.aW (aA (aV (.str "due, came, amount, aisle, place, lot are the words, each once, with one blank between")) aC)) bQ)
def wD (K:Fg) (A:bO) (ex:aN→aX):bK :=
    (bU (aB 1))
def wF (K:Fg) (A:bO) (ex:aN→aX):bK :=
    aO (rR (a8B (aB 2)) (rQ 3) (o8 K A ex)) (wD K A ex)
def wG (K:Fg) (A:bO) (ex:aN→aX):bK :=
    aO (bJ 2 (a05 (uU (aB 1)) xD (bY (tM K A) NoX (aA (aB 0) aC)))) (wF K A ex)
def wH (K:Fg) (A:bO) (ex:aN→aX):bK :=
    aO (bJ 1 (tM3 "str" pW (aB 0) (aA (aV (.str " ")) aC))) (wG K A ex)
def mD (K:Fg) (A:bO) (ex:aN→aX):bK :=
    aO (dH (yC (aZ (iD (aD K) (aA (aB 0) (aA (aV (.ty "str")) aC))))) (tH ex A.aW (aA (aV (.str "a text is wanted")) aC)) bQ) (wH K A ex)
def jA (K:Fg) (A:bO):rA:=spD 4 1 fun EX=>mD K A (fun _=>EX)
def a8Q:CB:=(.cons (.ifs (.not (.val (.call 1 (.cons (.var 0) (.cons (.glo 0) .nil))))) (.cons (.raise 2 (.con (.str "a text is wanted")) .nil) .nil) .nil) (.cons (.set 1 (.meth .split (.var 0) (.cons (.con (.str " ")) .nil))) (.cons (.setC 2 [false,false,false,false] [false,false,false,true,false] (.any (.var 1)) .none (.call 3 (.cons (.var 0) .nil))) (.cons (.a8G (.any (.var 2)) (.nm 3) (.cons (.ifs (.or (.cons (.cmp .NotIn (.var 3) (.glo 4)) (.cons (.cmp .Gt (.meth .count (.var 2) (.cons (.var 3) .nil)) (.con (.int 1))) .nil))) (.cons (.raise 2 (.con (.str "due, came, amount, aisle, place, lot are the words, each once, with one blank between")) .nil) .nil) .nil) .nil)) (.cons (.ret (.var 1)) .nil)))))
def a8R (K:Fg) (A:bO):SI:=⟨["text", "words", "names", "name"],[true,true,true,true],[true,true,true,true],[false,false,false,false],[("str",.bt "str"),("isinstance",.bf .isi),("NoRule",.cls A.aW),("bare",.fn (tM K A) 1 false),("WORDS",.con (.tup [.str "due",.str "came",.str "amount",.str "aisle",.str "place",.str "lot"]))],[true,true,true,false,true],true,false⟩
def bI:vM:=atM "rule_of" "parts" (inBody cX 1)
def sS (K:Fg) (A:bO) (ex:aN→aX):bK :=
    (bU (iD vX (aA (a9Q 2 (uU (aB 0)) xD (abH (aZ (aB 1)) (a9M (aG bR (aB 4) (aB 0))) (aG bR (aB 4) (aB 0)))) aC)))
def jR (K:Fg) (A:bO) (ex:aN→aX):bK :=
    aO (bJ 2 (bY (iY K A) ex (aA (aB 1) aC))) (sS K A ex)
def cD (K:Fg) (A:bO):rA:=spD 3 2 fun EX=>jR K A (fun _=>EX)
def wI:CB:=(.cons (.set 2 (.call 0 (.cons (.var 1) .nil))) (.cons (.ret (.call 1 (.cons (.aa1 2 [false,false,true] [false,false] (.any (.fre 0)) .none (.ifx (.val (.var 1)) (.neg (.ix (.var 4) (.var 0))) (.ix (.var 4) (.var 0)))) .nil))) .nil))
def wJ (K:Fg) (A:bO):SI:=⟨["parts", "piece", "numbers"],[false,true,true],[false,true,false],[true,false,true],[("numbers_of",.fn (iY K A) 1 false),("tuple",.bt "tuple")],[true,true],true,false⟩
def lA (K:Fg) (A:bO) (ex:aN→aX):bK :=
    (bJ 1 (a05 (uU (bY (jA K A) ex (aA (aB 0) aC))) xD (yD (aA (aiM  [.str "due",.str "came",.str "amount",.str "aisle",.str "place",.str "lot"] (bY (tM K A) NoX (aA (aB 0) aC))) (aA (tM3 "str" oH (aB 0) (aA (aV (.str "-")) aC)) aC)))))
def dF (K:Fg) (A:bO):rA:=alB 3 1 (fun EX=>lA K A (fun _=>EX)) A.cY bI (a73 (inBody cX 1)) 1
def a3M:CB:=(.cons (.setC 1 [false,false,false] [false,true,true] (.any (.call 0 (.cons (.var 0) .nil))) .none (.tup (.cons (.tix 1 (.call 2 (.cons (.var 0) .nil))) (.cons (.meth .starts (.var 0) (.cons (.con (.str "-")) .nil)) .nil)))) .nil)
def a3N (K:Fg) (A:bO):SI:=⟨["text", "parts", "tuple_of"],[true,true,true],[true,false,true],[false,true,false],[("words_of",.fn (jA K A) 1 false),("WORDS",.con (.tup [.str "due",.str "came",.str "amount",.str "aisle",.str "place",.str "lot"])),("bare",.fn (tM K A) 1 false)],[true,false,false],true,false⟩
def oN (K:Fg) (A:bO) (ex:aN→aX):bK :=
    (bU (aG dB (aG bC (aG vN (aB 2) (aB 2)) (aG vN (aV (.int 48271)) (aB 1))) (aV (.int 2147483629))))
def oO (K:Fg) (A:bO) (ex:aN→aX):bK :=
    aO (bJ 2 (aG dB (aG bC (aG vN (aG bR (aB 0) (aG dB (aB 1) (iD oF (aA (aB 0) aC)))) (aV (.int 48271))) (aG vN (aB 1) (aV (.int 104729)))) (aV (.int 2147483647)))) (oN K A ex)
def oR (K:Fg) (A:bO) (ex:aN→aX):bK :=
    aO (dH (aZ (aG lR (iD oF (aA (aB 0) aC)) (aV (.int 0)))) (bU (aV (.int 0))) bQ) (oO K A ex)
def mF (K:Fg) (A:bO) (ex:aN→aX):bK :=
    aO (dH (aZ (aG ahQ (aB 1) (iD oF (aA (aB 0) aC)))) (bU (aG bR (aB 0) (aB 1))) bQ) (oR K A ex)
def bD (K:Fg) (A:bO):rA:=spD 3 2 fun EX=>mF K A (fun _=>EX)
def a0O:CB:=(.cons (.ifs (.cmp .Lt (.var 1) (.call 0 (.cons (.var 0) .nil))) (.cons (.ret (.ix (.var 0) (.var 1))) .nil) .nil) (.cons (.ifs (.cmp .Eq (.call 0 (.cons (.var 0) .nil)) (.con (.int 0))) (.cons (.ret (.con (.int 0))) .nil) .nil) (.cons (.set 2 (.bin .Mod (.bin .Add (.bin .Mult (.ix (.var 0) (.bin .Mod (.var 1) (.call 0 (.cons (.var 0) .nil)))) (.con (.int 48271))) (.bin .Mult (.var 1) (.con (.int 104729)))) (.con (.int 2147483647)))) (.cons (.ret (.bin .Mod (.bin .Add (.bin .Mult (.var 2) (.var 2)) (.bin .Mult (.con (.int 48271)) (.var 1))) (.con (.int 2147483629)))) .nil))))
def a0P (K:Fg) (A:bO):SI:=⟨["_law_script", "_law_k", "_law_mixed"],[true,true,true],[true,true,true],[false,false,false],[("len",.bf .len)],[true],true,false⟩
def qF (K:Fg) (A:bO) (ex:aN→aX):bK :=
    (bU (uP (iD (aD K) (aA (aB 0) (aA (aV (.ty "int")) aC))) (a4H (iD (aD K) (aA (aB 0) (aA (aV (.ty "bool")) aC))))))
def iZ (K:Fg) (A:bO):rA:=spD 1 1 fun EX=>qF K A (fun _=>EX)
def a5E:CB:=(.cons (.ret (.abW (.cons (.call 1 (.cons (.var 0) (.cons (.glo 0) .nil))) (.cons (.aiU (.call 1 (.cons (.var 0) (.cons (.glo 2) .nil)))) .nil)))) .nil)
def a5F (K:Fg) (A:bO):SI:=⟨["_law_found"],[true],[true],[false],[("int",.bt "int"),("isinstance",.bf .isi),("bool",.bt "bool")],[true,true,true],true,false⟩
def nF (K:Fg) (A:bO) (ex:aN→aX):bK :=
    (uR (tM3 "list" lU (aB 3) (aA (aG bC (aG bR (fH (aA (aV (.str "")) (aA (aV (.str "-")) aC))) (aG dB (aB 2) (aV (.int 2)))) (tM3 "list" xG (aB 1) (aA (aG dB (aG iH (aB 2) (aV (.int 2))) (iD oF (aA (aB 1) aC))) aC))) aC)))
def jF (K:Fg) (A:bO) (ex:aN→aX):bK :=
    aO (bJ 2 (bY (bD K A) ex (aA (aB 0) (aA (aG bC (aV (.int 2)) (aB 4)) aC)))) (nF K A ex)
def sU (K:Fg) (A:bO) (ex:aN→aX):bK :=
    (bU (aB 3))
def sV (K:Fg) (A:bO) (ex:aN→aX):bK :=
    aO (rR (xB (aA (aG bC (aV (.int 1)) (aG dB (aB 2) (aV (.int 6)))) aC)) (rQ 4) (jF K A ex)) (sU K A ex)
def sW (K:Fg) (A:bO) (ex:aN→aX):bK :=
    aO (bJ 3 (fH aC)) (sV K A ex)
def sX (K:Fg) (A:bO) (ex:aN→aX):bK :=
    aO (bJ 2 (bY (bD K A) ex (aA (aB 0) (aA (aV (.int 1)) aC)))) (sW K A ex)
def qG (K:Fg) (A:bO) (ex:aN→aX):bK :=
    aO (bJ 1 (fH (aA (aV (.str "due")) (aA (aV (.str "came")) (aA (aV (.str "amount")) (aA (aV (.str "aisle")) (aA (aV (.str "place")) (aA (aV (.str "lot")) aC)))))))) (sX K A ex)
def j4 (K:Fg) (A:bO):rA:=spD 5 1 fun EX=>qG K A (fun _=>EX)
def a5G:CB:=(.cons (.set 1 (.lst (.cons (.con (.str "due")) (.cons (.con (.str "came")) (.cons (.con (.str "amount")) (.cons (.con (.str "aisle")) (.cons (.con (.str "place")) (.cons (.con (.str "lot")) .nil)))))))) (.cons (.set 2 (.call 0 (.cons (.var 0) (.cons (.con (.int 1)) .nil)))) (.cons (.set 3 (.lst .nil)) (.cons (.a8G (.abX (.bin .Add (.con (.int 1)) (.bin .Mod (.var 2) (.con (.int 6))))) (.nm 4) (.cons (.set 2 (.call 0 (.cons (.var 0) (.cons (.bin .Add (.con (.int 2)) (.var 4)) .nil)))) (.cons (.expr (.meth .append (.var 3) (.cons (.bin .Add (.ix (.lst (.cons (.con (.str "")) (.cons (.con (.str "-")) .nil))) (.bin .Mod (.var 2) (.con (.int 2)))) (.meth .abV (.var 1) (.cons (.bin .Mod (.bin .FloorDiv (.var 2) (.con (.int 2))) (.call 2 (.cons (.var 1) .nil))) .nil))) .nil))) .nil))) (.cons (.ret (.var 3)) .nil)))))
def a5H (K:Fg) (A:bO):SI:=⟨["_law_script", "_law_left", "_law_cell", "_law_words_here", "_law_k"],[true,true,true,true,true],[true,true,true,true,true],[false,false,false,false,false],[("_law_cell_at",.fn (bD K A) 2 false),("range",.bt "range"),("len",.bf .len)],[true,true,true],true,false⟩
def eY (K:Fg) (A:bO) (ex:aN→aX):bK :=
    (uR (tM3 "list" lU (aB 2) (aA (aB 6) aC)))
def jK (K:Fg) (A:bO) (ex:aN→aX):bK :=
    aO (dH (aZ (aG lR (cU (aB 3) bZ (eV (aV (.int 1)))) (aV (.str "-")))) (bJ 6 (aG a2R (aV (.int 0)) (aB 6))) bQ) (eY K A ex)
def jL (K:Fg) (A:bO) (ex:aN→aX):bK :=
    aO (bJ 6 (zE (aB 5) (aB 4) (aG bR (aB 0) (aV (.int 1))))) (jK K A ex)
def jM (K:Fg) (A:bO) (ex:aN→aX):bK :=
    aO (bJ 5 (a4W ["due", "came", "amount", "aisle", "place"] (aA (aG bR (aB 0) (aV (.int 3))) (aA (aG bR (aB 0) (aV (.int 4))) (aA (aG bR (aB 0) (aV (.int 2))) (aA (aG bR (aG bR (aB 0) (aV (.int 0))) (aV (.int 0))) (aA (aG bR (aG bR (aB 0) (aV (.int 0))) (aV (.int 1))) aC))))))) (jL K A ex)
def nG (K:Fg) (A:bO) (ex:aN→aX):bK :=
    aO (bJ 4 (tM3 "str" oJ (aB 3) (aA (aV (.str "-")) (aA (aV (.str "")) aC)))) (jM K A ex)
def iM (K:Fg) (A:bO) (ex:aN→aX):bK :=
    (bU (aB 2))
def oU (K:Fg) (A:bO) (ex:aN→aX):bK :=
    aO (rR (a8B (aB 1)) (rQ 3) (nG K A ex)) (iM K A ex)
def mH (K:Fg) (A:bO) (ex:aN→aX):bK :=
    aO (bJ 2 (fH aC)) (oU K A ex)
def fB (K:Fg) (A:bO):rA:=spD 7 2 fun EX=>mH K A (fun _=>EX)
def a0Q:CB:=(.cons (.set 2 (.lst .nil)) (.cons (.a8G (.any (.var 1)) (.nm 3) (.cons (.set 4 (.repl (.var 3) "-" "")) (.cons (.set 5 (.a9Z ["due", "came", "amount", "aisle", "place"] (.cons (.ix (.var 0) (.con (.int 3))) (.cons (.ix (.var 0) (.con (.int 4))) (.cons (.ix (.var 0) (.con (.int 2))) (.cons (.ix (.ix (.var 0) (.con (.int 0))) (.con (.int 0))) (.cons (.ix (.ix (.var 0) (.con (.int 0))) (.con (.int 1))) .nil))))))) (.cons (.set 6 (.dgt (.var 5) (.var 4) (.ix (.var 0) (.con (.int 1))))) (.cons (.ifs (.cmp .Eq (.sl (.var 3) .none (.some (.con (.int 1)))) (.con (.str "-"))) (.cons (.set 6 (.bin .Sub (.con (.int 0)) (.var 6))) .nil) .nil) (.cons (.expr (.meth .append (.var 2) (.cons (.var 6) .nil))) .nil)))))) (.cons (.ret (.var 2)) .nil)))
def a0R (K:Fg) (A:bO):SI:=⟨["_law_piece", "_law_words_here", "_law_found", "_law_word", "_law_name", "_law_told", "_law_number"],[true,true,true,true,true,true,true],[true,true,true,true,true,true,true],[false,false,false,false,false,false,false],[],[],true,true⟩
def gA (K:Fg) (A:bO) (ex:aN→aX):bK :=
    (bU (aB 0))
def gB (K:Fg) (A:bO) (ex:aN→aX):bK :=
    aO (dH (a2Q (aZ (aG lR (aB 9) (aV (.int 6)))) (aZ (aG adD (iD oF (aA (aB 5) aC)) (aV (.int 1))))) (bU (aG bC (aG bC (aB 4) (fH (aA (aG bC (aG bC (aG bR (aB 5) (aV (.int 0))) (aG bR (aV (.str "\t\n")) (aG dB (aB 3) (aV (.int 2))))) (aG bR (aB 5) (aV (.int 1)))) aC))) (cU (aB 5) (eV (aV (.int 2))) bZ))) bQ) (gA K A ex)
def gC (K:Fg) (A:bO) (ex:aN→aX):bK :=
    aO (dH (aZ (aG lR (aB 9) (aV (.int 5)))) (bU (aG bC (aG bC (aB 4) (fH (aA (aG bC (aG bR (aB 5) (aV (.int 0))) (aB 8)) aC))) (cU (aB 5) (eV (aV (.int 1))) bZ))) bQ) (gB K A ex)
def gF (K:Fg) (A:bO) (ex:aN→aX):bK :=
    aO (dH (aZ (aG lR (aB 9) (aV (.int 4)))) (bU (aG bC (aG bC (aB 4) (fH (aA (cU (aG bR (aB 5) (aV (.int 0))) bZ (eV (aG a2R (iD oF (aA (aG bR (aB 5) (aV (.int 0))) aC)) (aV (.int 1))))) aC))) (cU (aB 5) (eV (aV (.int 1))) bZ))) bQ) (gC K A ex)
def gG (K:Fg) (A:bO) (ex:aN→aX):bK :=
    aO (dH (aZ (aG lR (aB 9) (aV (.int 3)))) (bU (aG bC (aG bC (aB 4) (fH (aA (aG bR (aB 6) (aG dB (aB 3) (aV (.int 12)))) aC))) (cU (aB 5) (eV (aV (.int 1))) bZ))) bQ) (gF K A ex)
def gH (K:Fg) (A:bO) (ex:aN→aX):bK :=
    aO (dH (aZ (aG lR (aB 9) (aV (.int 2)))) (bU (aG bC (aG bC (aB 4) (fH (aA (aG bR (aB 6) (aG dB (aB 3) (aV (.int 12)))) aC))) (aB 5))) bQ) (gG K A ex)
def gJ (K:Fg) (A:bO) (ex:aN→aX):bK :=
    aO (dH (aZ (aG lR (aB 9) (aV (.int 1)))) (bU (aG bC (aG bC (aB 4) (fH (aA (aG bC (aV (.str "-")) (aB 7)) aC))) (aB 5))) bQ) (gH K A ex)
def gK (K:Fg) (A:bO) (ex:aN→aX):bK :=
    aO (dH (a2Q (aZ (aG lR (aB 9) (aV (.int 1)))) (aZ (aG lR (cU (aB 7) bZ (eV (aV (.int 1)))) (aV (.str "-"))))) (bU (aG bC (aG bC (aB 4) (fH (aA (cU (aB 7) (eV (aV (.int 1))) bZ) aC))) (aB 5))) bQ) (gJ K A ex)
def oV (K:Fg) (A:bO) (ex:aN→aX):bK :=
    aO (dH (aZ (aG lR (aB 9) (aV (.int 0)))) (bU (aG bC (aG bC (aB 4) (fH (aA (aB 7) aC))) (aB 5))) bQ) (gK K A ex)
def oW (K:Fg) (A:bO) (ex:aN→aX):bK :=
    aO (bJ 9 (aG dB (aB 1) (aV (.int 12)))) (oV K A ex)
def oX (K:Fg) (A:bO) (ex:aN→aX):bK :=
    aO (bJ 8 (aG bR (aV (.str "abcdefghijklmnopqrstuvwxyz\t\n,")) (aG dB (aB 3) (aV (.int 29))))) (oW K A ex)
def oY (K:Fg) (A:bO) (ex:aN→aX):bK :=
    aO (bJ 7 (aG bR (aB 0) (aG dB (aB 3) (iD oF (aA (aB 0) aC))))) (oX K A ex)
def oZ (K:Fg) (A:bO) (ex:aN→aX):bK :=
    aO (bJ 6 (fH (aA (aV (.str "")) (aA (aV (.str "-")) (aA (aV (.str "--due")) (aA (aV (.str "dues")) (aA (aV (.str "du")) (aA (aV (.str "Due")) (aA (aV (.str "day")) (aA (aV (.str "-bin")) (aA (aV (.str "lot,")) (aA (aV (.str "ware")) (aA (aV (.str "due-")) (aA (aV (.str "+lot")) aC)))))))))))))) (oY K A ex)
def p8 (K:Fg) (A:bO) (ex:aN→aX):bK :=
    aO (bJ 5 (cU (aB 0) (eV (aB 2)) bZ)) (oZ K A ex)
def pA (K:Fg) (A:bO) (ex:aN→aX):bK :=
    aO (bJ 4 (cU (aB 0) bZ (eV (aB 2)))) (p8 K A ex)
def pB (K:Fg) (A:bO) (ex:aN→aX):bK :=
    aO (bJ 3 (aG iH (aB 1) (aV (.int 72)))) (pA K A ex)
def mJ (K:Fg) (A:bO) (ex:aN→aX):bK :=
    aO (bJ 2 (aG dB (aG iH (aB 1) (aV (.int 12))) (iD oF (aA (aB 0) aC)))) (pB K A ex)
def fC (K:Fg) (A:bO):rA:=spD 10 2 fun EX=>mJ K A (fun _=>EX)
def a0S:CB:=(.cons (.set 2 (.bin .Mod (.bin .FloorDiv (.var 1) (.con (.int 12))) (.call 0 (.cons (.var 0) .nil)))) (.cons (.set 3 (.bin .FloorDiv (.var 1) (.con (.int 72)))) (.cons (.set 4 (.sl (.var 0) .none (.some (.var 2)))) (.cons (.set 5 (.sl (.var 0) (.some (.var 2)) .none)) (.cons (.set 6 (.lst (.cons (.con (.str "")) (.cons (.con (.str "-")) (.cons (.con (.str "--due")) (.cons (.con (.str "dues")) (.cons (.con (.str "du")) (.cons (.con (.str "Due")) (.cons (.con (.str "day")) (.cons (.con (.str "-bin")) (.cons (.con (.str "lot,")) (.cons (.con (.str "ware")) (.cons (.con (.str "due-")) (.cons (.con (.str "+lot")) .nil)))))))))))))) (.cons (.set 7 (.ix (.var 0) (.bin .Mod (.var 3) (.call 0 (.cons (.var 0) .nil))))) (.cons (.set 8 (.ix (.con (.str "abcdefghijklmnopqrstuvwxyz\t\n,")) (.bin .Mod (.var 3) (.con (.int 29))))) (.cons (.set 9 (.bin .Mod (.var 1) (.con (.int 12)))) (.cons (.ifs (.cmp .Eq (.var 9) (.con (.int 0))) (.cons (.ret (.bin .Add (.bin .Add (.var 4) (.lst (.cons (.var 7) .nil))) (.var 5))) .nil) .nil) (.cons (.ifs (.and (.cons (.cmp .Eq (.var 9) (.con (.int 1))) (.cons (.cmp .Eq (.sl (.var 7) .none (.some (.con (.int 1)))) (.con (.str "-"))) .nil))) (.cons (.ret (.bin .Add (.bin .Add (.var 4) (.lst (.cons (.sl (.var 7) (.some (.con (.int 1))) .none) .nil))) (.var 5))) .nil) .nil) (.cons (.ifs (.cmp .Eq (.var 9) (.con (.int 1))) (.cons (.ret (.bin .Add (.bin .Add (.var 4) (.lst (.cons (.bin .Add (.con (.str "-")) (.var 7)) .nil))) (.var 5))) .nil) .nil) (.cons (.ifs (.cmp .Eq (.var 9) (.con (.int 2))) (.cons (.ret (.bin .Add (.bin .Add (.var 4) (.lst (.cons (.ix (.var 6) (.bin .Mod (.var 3) (.con (.int 12)))) .nil))) (.var 5))) .nil) .nil) (.cons (.ifs (.cmp .Eq (.var 9) (.con (.int 3))) (.cons (.ret (.bin .Add (.bin .Add (.var 4) (.lst (.cons (.ix (.var 6) (.bin .Mod (.var 3) (.con (.int 12)))) .nil))) (.sl (.var 5) (.some (.con (.int 1))) .none))) .nil) .nil) (.cons (.ifs (.cmp .Eq (.var 9) (.con (.int 4))) (.cons (.ret (.bin .Add (.bin .Add (.var 4) (.lst (.cons (.sl (.ix (.var 5) (.con (.int 0))) .none (.some (.bin .Sub (.call 0 (.cons (.ix (.var 5) (.con (.int 0))) .nil)) (.con (.int 1))))) .nil))) (.sl (.var 5) (.some (.con (.int 1))) .none))) .nil) .nil) (.cons (.ifs (.cmp .Eq (.var 9) (.con (.int 5))) (.cons (.ret (.bin .Add (.bin .Add (.var 4) (.lst (.cons (.bin .Add (.ix (.var 5) (.con (.int 0))) (.var 8)) .nil))) (.sl (.var 5) (.some (.con (.int 1))) .none))) .nil) .nil) (.cons (.ifs (.and (.cons (.cmp .Eq (.var 9) (.con (.int 6))) (.cons (.cmp .Gt (.call 0 (.cons (.var 5) .nil)) (.con (.int 1))) .nil))) (.cons (.ret (.bin .Add (.bin .Add (.var 4) (.lst (.cons (.bin .Add (.bin .Add (.ix (.var 5) (.con (.int 0))) (.ix (.con (.str "\t\n")) (.bin .Mod (.var 3) (.con (.int 2))))) (.ix (.var 5) (.con (.int 1)))) .nil))) (.sl (.var 5) (.some (.con (.int 2))) .none))) .nil) .nil) (.cons (.ret (.var 0)) .nil)))))))))))))))))
def a0T (K:Fg) (A:bO):SI:=⟨["_law_words_here", "_law_cell", "_law_at", "_law_more", "_law_ahead", "_law_behind", "_law_wrong", "_law_twin", "_law_sign", "_law_way"],[true,true,true,true,true,true,true,true,true,true],[true,true,true,true,true,true,true,true,true,true],[false,false,false,false,false,false,false,false,false,false],[("len",.bf .len)],[true],true,false⟩
def pC (K:Fg) (A:bO) (ex:aN→aX):bK :=
    (uR (tM3 "list" lU (aB 1) (aA (aB 3) aC)))
def iQ (K:Fg) (A:bO) (ex:aN→aX):bK :=
    aO (dH (a1U (aZ (aG pR (aB 3) (fH (aA (aV (.str "due")) (aA (aV (.str "came")) (aA (aV (.str "amount")) (aA (aV (.str "aisle")) (aA (aV (.str "place")) (aA (aV (.str "lot")) aC))))))))) (aZ (aG adR (aB 3) (aB 1)))) (bU (aV (.bl false))) bQ) (pC K A ex)
def pD (K:Fg) (A:bO) (ex:aN→aX):bK :=
    aO (dH (aZ (aG lR (cU (aB 2) bZ (eV (aV (.int 1)))) (aV (.str "-")))) (bJ 3 (cU (aB 2) (eV (aV (.int 1))) bZ)) bQ) (iQ K A ex)
def mK (K:Fg) (A:bO) (ex:aN→aX):bK :=
    aO (bJ 3 (aB 2)) (pD K A ex)
def u6 (K:Fg) (A:bO) (ex:aN→aX):bK :=
    (bU (aV (.bl true)))
def u9 (K:Fg) (A:bO) (ex:aN→aX):bK :=
    aO (rR (a8B (tM3 "str" pW (aB 0) (aA (aV (.str " ")) aC))) (rQ 2) (mK K A ex)) (u6 K A ex)
def uD (K:Fg) (A:bO) (ex:aN→aX):bK :=
    aO (bJ 1 (fH aC)) (u9 K A ex)
def jB (K:Fg) (A:bO) (ex:aN→aX):bK :=
    aO (dH (yC (aZ (iD (aD K) (aA (aB 0) (aA (aV (.ty "str")) aC))))) (bU (aV (.bl false))) bQ) (uD K A ex)
def gM (K:Fg) (A:bO):rA:=spD 4 1 fun EX=>jB K A (fun _=>EX)
def a79:CB:=(.cons (.ifs (.not (.val (.call 1 (.cons (.var 0) (.cons (.glo 0) .nil))))) (.cons (.ret (.con (.bl false))) .nil) .nil) (.cons (.set 1 (.lst .nil)) (.cons (.a8G (.any (.meth .split (.var 0) (.cons (.con (.str " ")) .nil))) (.nm 2) (.cons (.set 3 (.var 2)) (.cons (.ifs (.cmp .Eq (.sl (.var 2) .none (.some (.con (.int 1)))) (.con (.str "-"))) (.cons (.set 3 (.sl (.var 2) (.some (.con (.int 1))) .none)) .nil) .nil) (.cons (.ifs (.or (.cons (.cmp .NotIn (.var 3) (.lst (.cons (.con (.str "due")) (.cons (.con (.str "came")) (.cons (.con (.str "amount")) (.cons (.con (.str "aisle")) (.cons (.con (.str "place")) (.cons (.con (.str "lot")) .nil)))))))) (.cons (.cmp .In (.var 3) (.var 1)) .nil))) (.cons (.ret (.con (.bl false))) .nil) .nil) (.cons (.expr (.meth .append (.var 1) (.cons (.var 3) .nil))) .nil))))) (.cons (.ret (.con (.bl true))) .nil))))
def a7A (K:Fg) (A:bO):SI:=⟨["_law_text_here", "_law_known", "_law_word", "_law_name"],[true,true,true,true],[true,true,true,true],[false,false,false,false],[("str",.bt "str"),("isinstance",.bf .isi)],[true,true],true,false⟩
def uE (K:Fg) (A:bO) (ex:aN→aX):bK :=
    (bU (aG bR (fH (aA (tM3 "str" uV (aV (.str "  ")) (aA (aB 1) aC)) (aA (aG bC (aV (.str " ")) (aB 3)) (aA (aG bC (aB 3) (aV (.str " "))) (aA (adT "str" zF (aB 3)) (aA (aV .non) (aA (aB 1) (aA (aV (.int 7)) (aA (aV (.bl true)) (aA (aV (.str "")) (aA (aV (.str "-")) (aA (aV (.str " ")) aC)))))))))))) (aG dB (aG iH (aB 2) (aV (.int 3))) (aV (.int 11)))))
def uF (K:Fg) (A:bO) (ex:aN→aX):bK :=
    aO (dH (aZ (aG lR (aG dB (aB 2) (aV (.int 3))) (aV (.int 1)))) (bU (tM3 "str" uV (aV (.str " ")) (aA (bY (fC K A) ex (aA (aB 1) (aA (aG iH (aB 2) (aV (.int 3))) aC))) aC))) bQ) (uE K A ex)
def uG (K:Fg) (A:bO) (ex:aN→aX):bK :=
    aO (dH (aZ (aG lR (aG dB (aB 2) (aV (.int 3))) (aV (.int 0)))) (bU (aB 3)) bQ) (uF K A ex)
def uH (K:Fg) (A:bO) (ex:aN→aX):bK :=
    aO (bJ 3 (tM3 "str" uV (aV (.str " ")) (aA (aB 1) aC))) (uG K A ex)
def uI (K:Fg) (A:bO) (ex:aN→aX):bK :=
    aO (bJ 2 (bY (bD K A) ex (aA (aB 0) (aA (aV (.int 8)) aC)))) (uH K A ex)
def sY (K:Fg) (A:bO) (ex:aN→aX):bK :=
    aO (bJ 1 (bY (j4 K A) ex (aA (aB 0) aC))) (uI K A ex)
def jT (K:Fg) (A:bO):rA:=spD 4 1 fun EX=>sY K A (fun _=>EX)
def a7B:CB:=(.cons (.set 1 (.call 0 (.cons (.var 0) .nil))) (.cons (.set 2 (.call 1 (.cons (.var 0) (.cons (.con (.int 8)) .nil)))) (.cons (.set 3 (.meth .join (.con (.str " ")) (.cons (.var 1) .nil))) (.cons (.ifs (.cmp .Eq (.bin .Mod (.var 2) (.con (.int 3))) (.con (.int 0))) (.cons (.ret (.var 3)) .nil) .nil) (.cons (.ifs (.cmp .Eq (.bin .Mod (.var 2) (.con (.int 3))) (.con (.int 1))) (.cons (.ret (.meth .join (.con (.str " ")) (.cons (.call 2 (.cons (.var 1) (.cons (.bin .FloorDiv (.var 2) (.con (.int 3))) .nil))) .nil))) .nil) .nil) (.cons (.ret (.ix (.lst (.cons (.meth .join (.con (.str "  ")) (.cons (.var 1) .nil)) (.cons (.bin .Add (.con (.str " ")) (.var 3)) (.cons (.bin .Add (.var 3) (.con (.str " "))) (.cons (.meth .upper (.var 3) .nil) (.cons (.con .non) (.cons (.var 1) (.cons (.con (.int 7)) (.cons (.con (.bl true)) (.cons (.con (.str "")) (.cons (.con (.str "-")) (.cons (.con (.str " ")) .nil)))))))))))) (.bin .Mod (.bin .FloorDiv (.var 2) (.con (.int 3))) (.con (.int 11))))) .nil))))))
def a7C (K:Fg) (A:bO):SI:=⟨["_law_script", "_law_words_here", "_law_cell", "_law_text_here"],[true,true,true,true],[true,true,true,true],[false,false,false,false],[("_law_words",.fn (j4 K A) 1 false),("_law_cell_at",.fn (bD K A) 2 false),("_law_spoiled",.fn (fC K A) 2 false)],[true,true,true],true,false⟩
def nH (K:Fg) (A:bO) (ex:aN→aX):bK :=
    (bU (uP (iD (aD K) (aA (aB 1) (aA (aV (.ref A.aW)) aC))) (iD (aD K) (aA (aB 1) (aA (aV (.ty "ValueError")) aC)))))
def nJ (K:Fg) (A:bO) (ex:aN→aX):bK :=
    aO (dH (a1U (aZ (iD (aD K) (aA (aB 1) (aA (aV (.ref A.nD)) aC)))) (aZ (iD (aD K) (aA (aB 1) (aA (aV (.ref A.j9)) aC))))) (bU (aV (.bl false))) bQ) (nH K A NoX)
def xK (K:Fg) (A:bO) (ex:aN→aX):bK :=
    (bU (aV (.bl false)))
def mL (K:Fg) (A:bO) (ex:aN→aX):bK :=
    aO (a6G K A.cQ 1 (fun EX2=>(uR (bY (dF K A) EX2 (aA (aB 0) aC)))) (aO (dH (a1U (aZ (iD (aD K) (aA (aB 1) (aA (aV (.ref A.dZ)) aC)))) (aZ (iD (aD K) (aA (aB 1) (aA (aV (.ref A.j8)) aC))))) (bU (aV (.bl false))) bQ) (nJ K A NoX))) (xK K A ex)
def fD (K:Fg) (A:bO):rA:=spD 2 1 fun EX=>mL K A (fun _=>EX)
def a0U:CB:=(.cons (.aiZ 0 1 (.cons (.expr (.call 1 (.cons (.var 0) .nil))) .nil) (.cons (.ifs (.or (.cons (.val (.call 3 (.cons (.var 1) (.cons (.glo 2) .nil)))) (.cons (.val (.call 3 (.cons (.var 1) (.cons (.glo 4) .nil)))) .nil))) (.cons (.ret (.con (.bl false))) .nil) .nil) (.cons (.ifs (.or (.cons (.val (.call 3 (.cons (.var 1) (.cons (.glo 5) .nil)))) (.cons (.val (.call 3 (.cons (.var 1) (.cons (.glo 6) .nil)))) .nil))) (.cons (.ret (.con (.bl false))) .nil) .nil) (.cons (.ret (.abW (.cons (.call 3 (.cons (.var 1) (.cons (.glo 7) .nil))) (.cons (.call 3 (.cons (.var 1) (.cons (.glo 8) .nil))) .nil)))) .nil)))) (.cons (.ret (.con (.bl false))) .nil))
def a0V (K:Fg) (A:bO):SI:=⟨["_law_text_here", "error"],[true,true],[true,true],[false,false],[("DepotError",.cls A.cQ),("rule_of",.fn (dF K A) 1 false),("NoAmount",.cls A.dZ),("isinstance",.bf .isi),("NoName",.cls A.j8),("NoRow",.cls A.nD),("NoWare",.cls A.j9),("NoRule",.cls A.aW),("ValueError",.bt "ValueError")],[true,true,true,true,true,true,true,true,true],true,false⟩
def a7D (K:Fg) (A:bO) (ex:aN→aX):bK :=
    (bU (uP (aG lR (uT 9 bI (cD K A) (aA (aB 6) aC)) (yD (aA (aG a2R (aV (.int 0)) (aG bR (aB 6) (aV (.int 1)))) (aA (aG bR (aB 6) (aV (.int 4))) aC)))) (aG lR (iD zZ (aA (uT 7 bI (cD K A) (aA (aB 6) aC)) aC)) (aB 5))))
def a7E (K:Fg) (A:bO) (ex:aN→aX):bK :=
    aO (bJ 9 (bY (dF K A) ex (aA (aV (.str "-lot came")) aC))) (a7D K A ex)
def a7F (K:Fg) (A:bO) (ex:aN→aX):bK :=
    aO (dH (a1U (yC (aZ (iD (aD K) (aA (aB 8) (aA (aV (.ty "tuple")) aC))))) (a1U (aZ (aG adM (a05 (uU (aB 8)) (yC (aZ (bY (iZ K A) NoX (aA (aB 0) aC)))) (aB 0)) (fH aC))) (aZ (aG adM (iD zZ (aA (aB 8) aC)) (aB 5))))) (bU (aV (.bl false))) bQ) (a7E K A ex)
def a7G (K:Fg) (A:bO) (ex:aN→aX):bK :=
    aO (bJ 8 (uT 7 bI (cD K A) (aA (aB 6) aC))) (a7F K A ex)
def aaJ (K:Fg) (A:bO) (ex:aN→aX):bK :=
    aO (bJ 5 (bY (fB K A) ex (aA (aB 6) (aA (tM3 "str" pW (aB 1) (aA (aV (.str " ")) aC)) aC)))) (a7G K A ex)
def aaK (K:Fg) (A:bO) (ex:aN→aX):bK :=
    aO (bJ 7 (bY (dF K A) ex (aA (aB 1) aC))) (aaJ K A ex)
def a5I (K:Fg) (A:bO) (ex:aN→aX):bK :=
    aO (dH (yC (aZ (bY (gM K A) ex (aA (aB 1) aC)))) (bU (bY (fD K A) ex (aA (aB 1) aC))) bQ) (aaK K A ex)
def aaL (K:Fg) (A:bO) (ex:aN→aX):bK :=
    aO (bJ 6 (yD (aA (aB 4) (aA (aG dB (aG iH (aB 2) (aV (.int 2574))) (aV (.int 1000))) (aA (aG bC (aV (.int 1)) (aG dB (aB 3) (aV (.int 1000000)))) (aA (aB 5) (aA (aG dB (aG iH (aB 3) (aV (.int 7))) (aG bC (aB 5) (aV (.int 1)))) aC))))))) (a5I K A ex)
def aaM (K:Fg) (A:bO) (ex:aN→aX):bK :=
    aO (bJ 5 (aG dB (aG iH (aB 2) (aV (.int 7))) (aV (.int 10000)))) (aaL K A ex)
def aaN (K:Fg) (A:bO) (ex:aN→aX):bK :=
    aO (bJ 4 (yD (aA (aG dB (aB 2) (aV (.int 26))) (aA (aG bC (aV (.int 1)) (aG dB (aG iH (aB 2) (aV (.int 26))) (aV (.int 99)))) aC)))) (aaM K A ex)
def aaO (K:Fg) (A:bO) (ex:aN→aX):bK :=
    aO (bJ 3 (bY (bD K A) ex (aA (aB 0) (aA (aV (.int 10)) aC)))) (aaN K A ex)
def aaP (K:Fg) (A:bO) (ex:aN→aX):bK :=
    aO (bJ 2 (bY (bD K A) ex (aA (aB 0) (aA (aV (.int 9)) aC)))) (aaO K A ex)
def afP (K:Fg) (A:bO) (ex:aN→aX):bK :=
    aO (bJ 1 (bY (jT K A) ex (aA (aB 0) aC))) (aaP K A ex)
def a8S (K:Fg) (A:bO):rA:=spD 10 1 fun EX=>afP K A (fun _=>EX)
def a7H:CB:=(.cons (.set 1 (.call 0 (.cons (.var 0) .nil))) (.cons (.set 2 (.call 1 (.cons (.var 0) (.cons (.con (.int 9)) .nil)))) (.cons (.set 3 (.call 1 (.cons (.var 0) (.cons (.con (.int 10)) .nil)))) (.cons (.set 4 (.tup (.cons (.bin .Mod (.var 2) (.con (.int 26))) (.cons (.bin .Add (.con (.int 1)) (.bin .Mod (.bin .FloorDiv (.var 2) (.con (.int 26))) (.con (.int 99)))) .nil)))) (.cons (.set 5 (.bin .Mod (.bin .FloorDiv (.var 2) (.con (.int 7))) (.con (.int 10000)))) (.cons (.set 6 (.tup (.cons (.var 4) (.cons (.bin .Mod (.bin .FloorDiv (.var 2) (.con (.int 2574))) (.con (.int 1000))) (.cons (.bin .Add (.con (.int 1)) (.bin .Mod (.var 3) (.con (.int 1000000)))) (.cons (.var 5) (.cons (.bin .Mod (.bin .FloorDiv (.var 3) (.con (.int 7))) (.bin .Add (.var 5) (.con (.int 1)))) .nil))))))) (.cons (.ifs (.not (.val (.call 2 (.cons (.var 1) .nil)))) (.cons (.ret (.call 3 (.cons (.var 1) .nil))) .nil) .nil) (.cons (.set 7 (.call 4 (.cons (.var 1) .nil))) (.cons (.set 5 (.aa0 5 (.var 6) (.var 1) " ")) (.cons (.set 8 (.callC 7 6 (.var 6) .nil)) (.cons (.ifs (.or (.cons (.not (.val (.call 8 (.cons (.var 8) (.cons (.glo 7) .nil))))) (.cons (.cmp .NotEq (.comp [false,false,false,false,false,false,false,false,false,false] [false,false,false,false,false,false,false,false,false,true,false] (.any (.var 8)) (.some (.not (.val (.call 9 (.cons (.var 0) .nil))))) (.var 0)) (.lst .nil)) (.cons (.cmp .NotEq (.call 10 (.cons (.var 8) .nil)) (.var 5)) .nil)))) (.cons (.ret (.con (.bl false))) .nil) .nil) (.cons (.set 9 (.call 4 (.cons (.con (.str "-lot came")) .nil))) (.cons (.ret (.abW (.cons (.cmp .Eq (.callC 9 6 (.var 6) .nil) (.tup (.cons (.bin .Sub (.con (.int 0)) (.ix (.var 6) (.con (.int 1)))) (.cons (.ix (.var 6) (.con (.int 4))) .nil)))) (.cons (.cmp .Eq (.call 10 (.cons (.callC 7 6 (.var 6) .nil) .nil)) (.var 5)) .nil)))) .nil)))))))))))))
def au9 (K:Fg) (A:bO):SI:=⟨["_law_script", "_law_text_here", "_law_cell", "_law_other", "_law_spot", "_law_due", "_law_piece", "_law_rule", "_law_found", "_law_beside"],[true,true,true,true,true,true,true,true,true,true],[true,true,true,true,true,true,true,true,true,true],[false,false,false,false,false,false,false,false,false,false],[("_law_text",.fn (jT K A) 1 false),("_law_cell_at",.fn (bD K A) 2 false),("_law_good",.fn (gM K A) 1 false),("_law_refused",.fn (fD K A) 1 false),("rule_of",.fn (dF K A) 1 false),("_law_numbers",.fnP (fB K A) 2),("-",.clo bI (cD K A)),("tuple",.bt "tuple"),("isinstance",.bf .isi),("_law_whole",.fn (iZ K A) 1 false),("list",.bt "list")],[true,true,true,true,true,true,false,true,true,false,true],true,false⟩
structure Txt (K:Fg) (mg:Str→Option Value) (A:bO):Prop where
  oM:A.kZ.code = .ref A.oM
  gO:vJ K "numbers_of" "numbers_of" wA A.pY A.fX
  jU:Binds K A.fX ["piece"] []
  jV:mg "numbers_of" = some (.ref A.pY)
  xM:vJ K "bare" "bare" afN A.a8O A.a0N
  a0W:Binds K A.a0N ["word"] []
  a0X:mg "bare" = some (.ref A.a8O)
  mQ:vJ K "words_of" "words_of" a0M A.uW A.lY
  qH:Binds K A.lY ["text"] []
  qI:mg "words_of" = some (.ref A.uW)
  iR:vJ K "rule_of" "rule_of" cX A.xJ A.kZ
  pF:Binds K A.kZ ["text"] []
  pG:mg "rule_of" = some (.ref A.xJ)
  cF:vJ K "_law_cell_at" "_law_cell_at" sE A.lZ A.dU
  cZ:Binds K A.dU ["_law_script", "_law_k"] []
  d7:mg "_law_cell_at" = some (.ref A.lZ)
  gP:vJ K "_law_whole" "_law_whole" wB A.pZ A.fY
  jW:Binds K A.fY ["_law_found"] []
  jX:mg "_law_whole" = some (.ref A.pZ)
  gQ:vJ K "_law_words" "_law_words" wC A.qC A.fZ
  jY:Binds K A.fZ ["_law_script"] []
  jZ:mg "_law_words" = some (.ref A.qC)
  eE:vJ K "_law_numbers" "_law_numbers" sG A.m7 A.dW
  gR:Binds K A.dW ["_law_piece", "_law_words_here"] []
  gU:mg "_law_numbers" = some (.ref A.m7)
  eF:vJ K "_law_spoiled" "_law_spoiled" sH A.m8 A.dX
  gW:Binds K A.dX ["_law_words_here", "_law_cell"] []
  gY:mg "_law_spoiled" = some (.ref A.m8)
  jC:vJ K "_law_good" "_law_good" yK A.sJ A.j6
  nM:Binds K A.j6 ["_law_text_here"] []
  nO:mg "_law_good" = some (.ref A.sJ)
  jD:vJ K "_law_text" "_law_text" yL A.sO A.j7
  nP:Binds K A.j7 ["_law_script"] []
  nQ:mg "_law_text" = some (.ref A.sO)
  eG:vJ K "_law_refused" "_law_refused" sI A.m9 A.dY
  gZ:Binds K A.dY ["_law_text_here"] []
  iB:mg "_law_refused" = some (.ref A.m9)
  alE:vJ K "law" "law" a78 A.yM A.afO
  auA:Binds K A.afO ["_law_script"] []
  auB:mg "law" = some (.ref A.yM)
  wK:mg "DepotError" = some (.ref A.cQ)
  eN:PySem.W.excIn K A.cQ BMv "ValueError.__new__" = true
  dJ:(PySem.W.clsIn K A.cQ).isSome=true
  dM:PySem.W.typeIn K (.ref A.cQ)=some (.type "type")
  dN:PySem.W.subIn K (.ref A.cQ) (.type "BaseException")=some true
  a7I:mg "NoName" = some (.ref A.j8)
  pH:PySem.W.excIn K A.j8 BMv "ValueError.__new__" = true
  lB:(PySem.W.clsIn K A.j8).isSome=true
  lC:PySem.W.typeIn K (.ref A.j8)=some (.type "type")
  lD:PySem.W.subIn K (.ref A.j8) (.type "BaseException")=some true
  a7J:mg "NoWare" = some (.ref A.j9)
  pI:PySem.W.excIn K A.j9 BMv "ValueError.__new__" = true
  lE:(PySem.W.clsIn K A.j9).isSome=true
  lF:PySem.W.typeIn K (.ref A.j9)=some (.type "type")
  lG:PySem.W.subIn K (.ref A.j9) (.type "BaseException")=some true
  a0Y:mg "NoAmount" = some (.ref A.dZ)
  iT:PySem.W.excIn K A.dZ BMv "ValueError.__new__" = true
  fL:(PySem.W.clsIn K A.dZ).isSome=true
  fM:PySem.W.typeIn K (.ref A.dZ)=some (.type "type")
  fO:PySem.W.subIn K (.ref A.dZ) (.type "BaseException")=some true
  a0Z:mg "NoRule" = some (.ref A.aW)
  mR:PySem.W.excIn K A.aW BMv "ValueError.__new__" = true
  fP:(PySem.W.clsIn K A.aW).isSome=true
  iU:PySem.W.typeIn K (.ref A.aW)=some (.type "type")
  fQ:PySem.W.subIn K (.ref A.aW) (.type "BaseException")=some true
  mU:ExC K A.aW
  lH:PySem.W.kitOne K (.ref A.aW) (.type "ValueError")=some true
  aaQ:mg "NoRow" = some (.ref A.nD)
  tO:PySem.W.excIn K A.nD BMv "ValueError.__new__" = true
  pJ:(PySem.W.clsIn K A.nD).isSome=true
  pK:PySem.W.typeIn K (.ref A.nD)=some (.type "type")
  pL:PySem.W.subIn K (.ref A.nD) (.type "BaseException")=some true
  bL:PySem.W.subIn K (.ref A.aW) (.ref A.cQ)=some true
  bW:PySem.W.kitOne K (.ref A.aW) (.ref A.dZ)=some false
  cL:PySem.W.kitOne K (.ref A.aW) (.ref A.j8)=some false
  d8:PySem.W.kitOne K (.ref A.aW) (.ref A.nD)=some false
  cM:PySem.W.kitOne K (.ref A.aW) (.ref A.aW)=some true
  cN:PySem.W.kitOne K (.ref A.aW) (.ref A.j9)=some false
  qJ:∃ a,mg "WORDS" = some (.ref a)∧∀ H,RD K H (.tup [.str "due",.str "came",.str "amount",.str "aisle",.str "place",.str "lot"]) (.ref a)
  wL:mg "ValueError" = none
  afQ:mg "bool" = none
  alF:mg "int" = none
  eO:mg "isinstance" = none
  aaR:mg "len" = none
  afR:mg "list" = none
  aaS:mg "range" = none
  afS:mg "str" = none
  a5J:mg "tuple" = none
end Law
namespace Law
open PySem PySem.Spec PyProof.Rows L2 L4 L5 L6
local macro_rules | `(tactic| walk_at "wp")=>`(tactic| first | (simp (maxSteps:=2000000) (implicitDefEqProofs:=false) (disch:=first | rfl | decide | assumption | omega) only [L5.atO,L5.aoU,L5.aoV,L5.atP,L5.atQ,L5.atR,L5.x_raise,L5.x_c,L5.aoW,L5.aoX,L5.axO,L5.aoY,L5.atV,L5.axP,L5.atX,L5.aoZ,L5.ap0,L5.atY,L5.atZ,L5.au0,L5.ap1,L5.au1,L5.au2,L5.x_call,L5.axQ,L5.x_m,L5.axR,L5.ajE,L5.af8,L5.ap2,L5.ajF,L5.atU,L5.aoO,L5.ajB,L5.af9,L5.au3,L5.ap6,L5.ap7,L5.ajN,L5.ap8,L5.x_lt,L5.axS,L5.ajG,L5.ajH,L5.aaD,L5.ajI,L5.dR,L5.ajK,L5.ajL,L5.ajM,L5.aoP,L5.aoQ,L5.aoR,L5.aoS,L5.aoT,L5.ajC,L5.ajD,L5.yI,L5.a0F,L5.a74,L5.a5A,L5.yJ,L5.a75,L5.a1Z,L5.a8K,L5.a8L,L5.a76,L5.afD,L5.ac2,L5.a8M,L5.au5,L5.au6,L5.a8N,L5.ac3,L5.ac4,L6.ajP,L6.au7,L6.ap9,L6.afF,L6.ajQ,L6.apA,L6.afH,L6.ajR,L6.afJ,L8.ajS,L12.ajT,L12.afM,reduceIte,reduceCtorEq];try dsimp only [L5.af4,L5.af5,L5.af6,L5.af7,L6.aaG]) | dsimp only [L5.af4,L5.af5,L5.af6,L5.af7,L6.aaG])
local macro_rules | `(tactic| exists $ls,*)=>`(tactic| (simp (implicitDefEqProofs:=false) only [$[$ls:term],*];repeat (first | (walk_at "wp") | (simp (implicitDefEqProofs:=false) only [$[$ls:term],*]))))
local macro_rules | `(tactic| walk_at "wr")=>`(tactic| repeat (walk_at "wp"))
section
variable {K:Fg} {A:bO} {G:Gp} {R:dG} {EX:aX} {mg:Str→Option Value}
open L7 L8 L12
abbrev six:List Str:=["due", "came", "amount", "aisle", "place", "lot"]
def aU (w:Str):Str:=if Txt.startswith w "-" = true then Txt.slice w (some 1) none else w
theorem qK (w:Str):decide (Txt.slice w none (some 1) = "-")=Txt.startswith w "-" := by
  have e1:(Str.ofString "-").length=1:=by decide
  have ed:(Str.ofString "-").cps.toList=[45]:=by decide
  unfold Txt.startswith
  by_cases c:1≤w.length
  · have s:=afB w (b:=1) c
    rw [show ((1:Nat):Int)=1 from rfl] at s
    rw [s]
    have g:decide (0+(Str.ofString "-").length≤w.length)=true:=decide_eq_true (by rw [e1];omega)
    rw [g,Bool.true_and]
    unfold Builtin.Str.subAt
    rw [e1]
    have e2:(w.cps.extract 0 (0+1)).toList=w.cps.toList.take 1:=by simp
    by_cases h:w.cps.toList.take 1=[45]
    · have a:(⟨(w.cps.toList.take 1).toArray⟩:Str)=Str.ofString "-" := by rw [h];decide
      rw [decide_eq_true a]
      symm
      rw [beq_iff_eq,← Array.toList_inj,e2,h,ed]
    · have a:¬ (⟨(w.cps.toList.take 1).toArray⟩:Str)=Str.ofString "-" := fun z=>h (by
        have z:=congrArg (fun s:Str=>s.cps.toList) z
        rw [ed] at z
        simpa using z)
      rw [decide_eq_false a]
      symm
      rw [beq_eq_false_iff_ne]
      intro z
      rw [← Array.toList_inj,e2,ed] at z
      exact h z
  · have z:w.length=0:=by omega
    have g:decide (0+(Str.ofString "-").length≤w.length)=false:=decide_eq_false (by rw [e1];omega)
    rw [g,Bool.false_and]
    refine decide_eq_false fun q=>?_
    have:=Txt.slice_le w none (some 1)
    rw [q] at this
    have:(Str.ofString "-").length≤w.length:=this
    rw [e1] at this
    omega
def gN:List Str→List Str→Bool
  | [],_=>true
  | n :: r,known=>six.contains n&&!known.contains n&&gN r (known++[n])
theorem afT:∀ (ns known:List Str),gN ns known=true↔(∀ n∈ns,n∈six)∧ns.Nodup∧∀ n∈ns,n ∉ known
  | [],known=>by simp [gN]
  | n :: r,known=>by
    rw [gN,Bool.and_eq_true,Bool.and_eq_true,afT r (known++[n]),Bool.not_eq_true',List.nodup_cons]
    rw [List.contains_iff_mem,← Bool.not_eq_true,List.contains_iff_mem]
    constructor
    · rintro ⟨⟨a,b⟩,c,d,e⟩
      refine ⟨fun m hm=>?_,⟨fun z=>(e n z) (by simp),d⟩,fun m hm=>?_⟩
      · rcases List.mem_cons.mp hm with rfl | hm
        · exact a
        · exact c m hm
      · rcases List.mem_cons.mp hm with rfl | hm
        · exact b
        · exact fun z=>e m hm (by simp [z])
    · rintro ⟨a,⟨b,c⟩,d⟩
      refine ⟨⟨a n (by simp),d n (by simp)⟩,fun m hm=>a m (by simp [hm]),c,fun m hm z=>?_⟩
      rcases List.mem_append.mp z with z | z
      · exact d m (by simp [hm]) z
      · rw [List.mem_singleton] at z
        subst z
        exact b hm
def okN (ns:List Str):Prop:=∀ n∈ns,n∈six∧ns.countP (· == n)≤1
theorem a5K (ns:List Str):gN ns []=true↔okN ns:=by
  rw [afT]
  unfold okN
  constructor
  · rintro ⟨a,b,_⟩ n hn
    exact ⟨a n hn,List.nodup_iff_count.mp b n⟩
  · intro h
    refine ⟨fun n hn=>(h n hn).1,List.nodup_iff_count.mpr fun n=>?_,fun n _ z=>nomatch z⟩
    by_cases c:n∈ns
    · exact (h n c).2
    · rw [List.count_eq_zero_of_not_mem c];omega
theorem ac6 {w:Str} (h:Txt.startswith w "-" = true):∃ r,w=⟨(45 :: r).toArray⟩∧aU w=⟨r.toArray⟩:=by
  have e1:(Str.ofString "-").length=1:=by decide
  have ed:(Str.ofString "-").cps.toList=[45]:=by decide
  have h0:=h
  unfold Txt.startswith at h
  rw [Bool.and_eq_true,decide_eq_true_eq,e1] at h
  obtain ⟨c,h⟩:=h
  unfold Builtin.Str.subAt at h
  rw [beq_iff_eq,← Array.toList_inj,ed,e1] at h
  have e2:(w.cps.extract 0 (0+1)).toList=w.cps.toList.take 1:=by simp
  rw [e2] at h
  obtain ⟨r,er⟩:∃ r,w.cps.toList=45 :: r:=by
    cases q:w.cps.toList with
    | nil=>rw [q] at h;cases h
    | cons a r=>rw [q] at h;simp at h;exact ⟨r,by subst h;rfl⟩
  refine ⟨r,by rw [← er],?_⟩
  unfold aU
  rw [if_pos h0]
  have s:=a8I w (a:=1) (by omega)
  rw [show ((1:Nat):Int)=1 from rfl,er] at s
  exact s
abbrev a8T:List Str:=["due", "came", "amount", "aisle", "place", "lot", "-due", "-came", "-amount", "-aisle", "-place", "-lot"]
theorem a3O {w:Str} (h:aU w∈six):w∈a8T:=by
  by_cases c:Txt.startswith w "-" = true
  · obtain ⟨r,rfl,e⟩:=ac6 c
    rw [e] at h
    have h:(⟨r.toArray⟩:Str) = "due" ∨ (⟨r.toArray⟩:Str) = "came" ∨ (⟨r.toArray⟩:Str) = "amount" ∨ (⟨r.toArray⟩:Str) = "aisle" ∨ (⟨r.toArray⟩:Str) = "place" ∨ (⟨r.toArray⟩:Str) = "lot" := by simpa [six] using h
    have key:∀ {z:Str},(⟨r.toArray⟩:Str)=z→r=z.cps.toList:=fun e=>by
      have:=congrArg (fun s:Str=>s.cps.toList) e
      simpa using this
    rcases h with h | h | h | h | h | h <;> (rw [key h];decide +kernel)
  · have e:aU w=w:=by unfold aU;rw [if_neg c]
    rw [e] at h
    have h:w = "due" ∨ w = "came" ∨ w = "amount" ∨ w = "aisle" ∨ w = "place" ∨ w = "lot" := by simpa [six] using h
    rcases h with h | h | h | h | h | h <;> (rw [h];decide +kernel)
theorem ajV {w:Str} (h:aU w∈six):Txt.replace w "-" "" = aU w:=by
  have key:∀ w∈a8T,Txt.replace w "-" "" = aU w:=by decide +kernel
  exact key w (a3O h)
theorem a8U {w:Str} (h:aU w∈six):w.length≤7:=by
  have key:∀ w∈a8T,w.length≤7:=by decide +kernel
  exact key w (a3O h)
def idF (n:Str):Nat:=six.findIdx (· == n)
theorem alG {n:Str} (h:n∈six):idF n < 6∧six[idF n]?=some n∧∀ m,m < idF n→six[m]?≠some n:=by
  have key:∀ n∈six,idF n < 6∧six[idF n]?=some n∧∀ m,m < idF n→six[m]?≠some n:=by decide +kernel
  exact key n h
theorem zJ (n:Str):∀ ys:List Str,(ys.map D.str).any (fun y=>eqP y (.str n))=ys.contains n
  | []=>rfl
  | y :: r=>by
    rw [List.map_cons,List.any_cons,zJ n r,List.contains_cons]
    congr 1
    show (y == n)=(n == y)
    exact Bool.eq_iff_iff.mpr ⟨fun z=>by rw [beq_iff_eq] at z ⊢;exact z.symm,fun z=>by rw [beq_iff_eq] at z ⊢;exact z.symm⟩
theorem a5L:∀ ys:List Str,(ys.map D.str).all scD=true
  | []=>rfl
  | y :: r=>by rw [List.map_cons,List.all_cons,a5L r];rfl
theorem ajW {n:Str} {ys:List Str} (h:R (.bl (!ys.contains n)) G):pR (.str n) (.tup (ys.map D.str)) G R :=
  ⟨rfl,a5L ys,by rw [zJ];exact h⟩
theorem ajX {n:Str} {ys:List Str} {p:Addr} (e:bH G p=some (ys.map D.str)) (h:R (.bl (!ys.contains n)) G):pR (.str n) (.ref p) G R:=by
  unfold pR inG
  simp only [e]
  exact ⟨rfl,a5L ys,by rw [zJ];exact h⟩
theorem axT {n:Str} {ys:List Str} {p:Addr} (e:bH G p=some (ys.map D.str)) (h:R (.bl (ys.contains n)) G):adR (.str n) (.ref p) G R:=by
  unfold adR inG
  simp only [e]
  exact ⟨rfl,a5L ys,by rw [zJ];exact h⟩
def strOf:D→Str
  | .str w=>w
  | _ => ""
theorem auC {ds:List D} {te:cB} {ρ:aN}:aiM ds te ρ G R=te ρ G fun y G1=>j5 (.tup ds) [y] G1 R:=rfl
theorem sZ:20000 < sizeLine:=by decide
theorem afU {w:Str} (hw:w.length≤sizeLine) (h:R (.str (aU w)) G):tM K A [.str w] G R EX:=by
  refine ⟨rfl,?_⟩
  replace h:=cJ.here h
  show a8P K A _ _ [some (.str w)] G
  exists a8P
  unfold aU at h
  by_cases c:Txt.startswith w "-" = true
  · rw [if_pos c]
    rw [if_pos c] at h
    exact ⟨hw,h⟩
  · rw [if_neg c]
    rw [if_neg c] at h
    exact h
theorem a1A {x:Str} (hx:x.length≤10000) (h:∀ q,G q=none→R (.ref q) (aL G q (.lst ((Txt.split x " ").map D.str)))):pW (.str x) [.str " "] G R:=by
  have b:=sZ
  have l:=PyProof.Rows.split_le x " "
  exact ⟨rfl,by omega,by omega,h⟩
theorem a1B {x w:Str} (hx:x.length≤10000) (h:w∈Txt.split x " "):w.length≤sizeLine:=by
  have b:=sZ
  have:=PyProof.Rows.part_short h
  omega
theorem a8V {F:iG} {ex:aN→aX} {q2:Addr} {ns:List Str} {r0 r1:Option D} (h2:G q2=some (.lst (ns.map D.str)))
    (hok:okN ns→∀ r G',Le G G'→F.nx [r0,r1,some (.ref q2),r] G') (hbad:¬ okN ns→∀ ρ G',Le G G'→ex ρ A.aW G'):rR (a8B (aB 2)) (rQ 3) (o8 K A ex) F [r0,r1,some (.ref q2),none] G:=by
  have b:=sZ
  rw [afH]
  walk_at "wr"
  rw [xH (aQ h2)]
  refine a0I (fun k ρ G'=>∃ r,ρ=[r0,r1,some (.ref q2),r]∧(∀ n∈ns.take k,n∈six∧ns.countP (· == n)≤1)∧Le G G') ⟨none,rfl,fun n hn=>by simp at hn,.refl _⟩ (fun k ρ G' ⟨_,_,_,l⟩=>aQ (l _ _ h2)) (fun k d ρ G' hk ⟨_,e,hp,l⟩=>?_) fun ρ G' ⟨r,e,hp,l⟩=>?_
  · subst e
    rw [List.getElem?_map] at hk
    obtain ⟨n,hn,rfl⟩:=Option.map_eq_some_iff.mp hk
    exists o8
    have hm:n∈ns:=List.mem_of_getElem? hn
    refine ajW (ys:=six) ?_
    walk_at "wr"
    have l2:=aQ (l _ _ h2)
    by_cases c:n∈six
    · rw [if_neg (by rw [List.contains_iff_mem.mpr c];decide)]
      rw [w5,l2]
      refine ⟨rfl,?_⟩
      rw [count_at l2]
      walk_at "wr"
      by_cases c2:ns.countP (· == n)≤1
      · rw [decide_eq_false (by omega)]
        walk_at "wr"
        refine ⟨_,rfl,fun m hm=>?_,l⟩
        rw [List.take_add_one,List.mem_append] at hm
        rcases hm with hm | hm
        · exact hp m hm
        · rw [hn] at hm
          have:m=n:=by simpa using hm
          subst this
          exact ⟨c,c2⟩
      · rw [decide_eq_true (by omega)]
        walk_at "wr"
        exact hbad (fun z=>c2 (z n hm).2) _ _ l
    · rw [if_pos (by rw [← Bool.not_eq_true,List.contains_iff_mem];exact c)]
      exact hbad (fun z=>c (z n hm).1) _ _ l
  · subst e
    rw [List.length_map,List.take_length] at hp
    exact hok hp _ _ l
theorem a8W {x:Str} (hx:x.length≤10000) (h:okN ((Txt.split x " ").map aU)→∀ G' q,Le G G'→G' q=some (.lst ((Txt.split x " ").map D.str))→R (.ref q) G') (hbad:¬ okN ((Txt.split x " ").map aU)→∀ G',Le G G'→EX A.aW G'):jA K A [.str x] G R EX:=by
  have b:=sZ
  refine ⟨rfl,?_⟩
  show mD K A _ _ [some (.str x),none,none,none] G
  exists mD,wH
  refine a1A hx fun q hq=>?_
  have sl:=PyProof.Rows.split_le x " "
  have l1:Le G (aL G q (.lst ((Txt.split x " ").map D.str))) := .new hq
  exists wG
  rw [a0H dR]
  refine comp_map (fun d => .str (aU (strOf d))) (by show ((Txt.split x " ").map D.str).length < sizeLine;rw [List.length_map];omega) dR (fun d hd G' l Q hQ=>?_) fun q2 hq2=>?_
  · have hd:d∈(Txt.split x " ").map D.str:=hd
    obtain ⟨w,hw,rfl⟩:=List.mem_map.mp hd
    walk_at "wr"
    exact afU (a1B hx hw) (hQ _ (.refl _))
  · have en:((Src.lst q ((Txt.split x " ").map D.str)).items.map fun d=>D.str (aU (strOf d)))=((Txt.split x " ").map aU).map D.str:=by
      show ((Txt.split x " ").map D.str).map _=_
      rw [List.map_map,List.map_map]
      rfl
    rw [en]
    exists wF
    have l2:=l1.trans (Le.new (o := .lst (((Txt.split x " ").map aU).map D.str)) hq2)
    refine a8V (ns:=(Txt.split x " ").map aU) aF (fun ok r G' l=>?_) fun nk ρ G' l=>jJ.here (hbad nk _ (l2.trans l))
    exists wD
    exact cJ.here (h ok _ _ (l2.trans l) (l _ _ (aR aF hq2)))
theorem a8X {d:D} (hd:∀ {Q:dG},Q (.bl false) G→aD K [d,.ty "str"] G Q) (hbad:EX A.aW G):jA K A [d] G R EX:=by
  refine ⟨rfl,?_⟩
  show mD K A _ _ [some d,none,none,none] G
  exists mD
  refine hd ?_
  walk_at "wr"
  exact jJ.here hbad
abbrev wM (w:Str):D := .tup [.int (idF (aU w)),.bl (Txt.startswith w "-")]
abbrev apE:GO := .tab bI.qual (a73 (inBody cX 1))
theorem xO {x:Str} (hT:G A.cY=some apE) (hx:x.length≤10000) (h:okN ((Txt.split x " ").map aU)→∀ G' q f,Le G G'→G' q=some (.lst ((Txt.split x " ").map wM))→G' f=some (.clo bI (.ref q))→R (.ref f) G') (hbad:¬ okN ((Txt.split x " ").map aU)→∀ G',Le G G'→EX A.aW G'):dF K A [.str x] G R EX:=by
  have b:=sZ
  refine ⟨rfl,?_⟩
  show lA K A _ _ [some (.str x),none,none] G
  exists lA
  refine a8W hx (fun ok G1 q l hq=>?_) fun nk G1 l=>jJ.here (hbad nk G1 l)
  rw [a0H (aQ hq)]
  have sl:=PyProof.Rows.split_le x " "
  refine comp_map (fun d=>wM (strOf d)) (by show ((Txt.split x " ").map D.str).length < sizeLine;rw [List.length_map];omega) (aQ hq) (fun d hd G' l' Q hQ=>?_) fun q2 hq2=>?_
  · have hd:d∈(Txt.split x " ").map D.str:=hd
    obtain ⟨w,hw,rfl⟩:=List.mem_map.mp hd
    walk_at "wr"
    exists auC
    refine afU (a1B hx hw) ?_
    have m6:=(ok (aU w) (List.mem_map.mpr ⟨w,hw,rfl⟩)).1
    obtain ⟨i1,i2,i3⟩:=alG m6
    refine ac5 (ys:=six) (idF (aU w)) i2 i3 ?_
    walk_at "wr"
    exact hQ _ (.refl _)
  · have en:((Src.lst q ((Txt.split x " ").map D.str)).items.map fun d=>wM (strOf d))=(Txt.split x " ").map wM:=by
      show ((Txt.split x " ").map D.str).map _=_
      rw [List.map_map]
      rfl
    rw [en]
    walk_at "wr"
    have l2:=l.trans (Le.new (o := .lst ((Txt.split x " ").map wM)) hq2)
    refine ⟨l2 _ _ hT,_,rfl,fun f hf=>?_⟩
    exact h ok _ q2 f (l2.trans (.new hf)) (aR aF hf) aF
theorem ac7 {d:D} (hd:∀ {Q:dG},Q (.bl false) G→aD K [d,.ty "str"] G Q) (hbad:EX A.aW G):dF K A [d] G R EX:=by
  refine ⟨rfl,?_⟩
  show lA K A _ _ [some d,none,none] G
  exists lA
  exact a8X hd (jJ.here hbad)
abbrev pcD (a p l m d c:Int):D := .tup [.tup [.int a,.int p],.int l,.int m,.int d,.int c]
abbrev uX (a p l m d c:Int):List Int:=[d,c,m,a,p,l]
theorem apF {a p l m d c:Int} (h:R (.tup ((uX a p l m d c).map D.int)) G):iY K A [pcD a p l m d c] G R EX:=by
  refine ⟨rfl,?_⟩
  replace h:=cJ.here h
  show qD K A _ _ [some (pcD a p l m d c)] G
  have i3:∀ {R:dG},bR (pcD a p l m d c) (.int 3) G R=R (.int d) G:=rfl
  have i4:∀ {R:dG},bR (pcD a p l m d c) (.int 4) G R=R (.int c) G:=rfl
  exists qD,i3,i4
  exact h
def jG (vs:List Int) (w:Str):Int:=if Txt.startswith w "-" = true then - vs.getD (idF (aU w)) 0 else vs.getD (idF (aU w)) 0
theorem ac8 {q:Addr} {ds:List D} (h:bH G q=some ds):vX [.ref q] G R=R (.tup ds) G:=by
  unfold vX
  simp only [h]
def prt:D→Nat×Bool
  | .tup [.int i,.bl b]=>(i.toNat,b)
  | _=>(0,false)
theorem at6 {vs:List Int} (h6:vs.length=6) {i:Nat} (hi:i < 6):uL (vs.map D.int) (i:Int)=some (.int (vs.getD i 0)):=by
  rw [o7,List.getElem?_map,List.getElem?_eq_getElem (by omega)]
  simp [List.getD,List.getElem?_eq_getElem (show i < vs.length by omega)]
theorem a8Y {a p l m d c:Int} {q:Addr} {ws:List Str} (hq:G q=some (.lst (ws.map wM))) (h6:∀ w∈ws,aU w∈six) (hl:ws.length≤20000) (h:∀ G',Le G G'→R (.tup (ws.map fun w => .int (jG (uX a p l m d c) w))) G'):cD K A [.ref q,pcD a p l m d c] G R EX:=by
  have b:=sZ
  refine ⟨rfl,?_⟩
  show jR K A _ _ [some (.ref q),some (pcD a p l m d c),none] G
  exists jR
  refine apF ?_
  exists sS
  rw [a0H (aQ hq)]
  refine a77 (fun d=>[.int (prt d).1,.bl (prt d).2]) (fun _=>true) (fun e => .int (if (prt e).2=true then - (uX a p l m d c).getD (prt e).1 0 else (uX a p l m d c).getD (prt e).1 0)) (by show (ws.map wM).length < sizeLine;rw [List.length_map];omega) (aQ hq) (fun e he=>?_) (fun e he G' l' Q hQ=>?_) (fun e he _ G' l' Q hQ=>?_) fun q2 hq2=>?_
  · have he:e∈ws.map wM:=he
    obtain ⟨w,hw,rfl⟩:=List.mem_map.mp he
    rfl
  · exact hQ _ (.refl _)
  · have he:e∈ws.map wM:=he
    obtain ⟨w,hw,rfl⟩:=List.mem_map.mp he
    obtain ⟨i1,i2,i3⟩:=alG (h6 w hw)
    have e0:(prt (wM w)).1=idF (aU w):=rfl
    have e1:(prt (wM w)).2=Txt.startswith w "-" := rfl
    rw [e0,e1] at hQ
    show abH _ _ _ [some (.int (idF (aU w):Nat)),some (.bl (Txt.startswith w "-")),some (.ref q),some (pcD a p l m d c),some (.tup ((uX a p l m d c).map D.int))] G' Q
    have ix:∀ {R:dG} {G:Gp},bR (.tup ((uX a p l m d c).map D.int)) (.int (idF (aU w):Nat)) G R=R (.int ((uX a p l m d c).getD (idF (aU w)) 0)) G:=fun {R G}=>a4Z (at6 rfl i1)
    generalize uX a p l m d c=vs at ix hQ ⊢
    walk_at "wr"
    by_cases c:Txt.startswith w "-" = true
    · rw [if_pos c] at hQ ⊢
      exists ix
      exact hQ _ (.refl _)
    · rw [if_neg c] at hQ ⊢
      exists ix
      exact hQ _ (.refl _)
  · have en:((List.filter (fun _=>true) (Src.lst q (ws.map wM)).items).map fun e=>D.int (if (prt e).2=true then - (uX a p l m d c).getD (prt e).1 0 else (uX a p l m d c).getD (prt e).1 0))=ws.map fun w=>D.int (jG (uX a p l m d c) w):=by
      rw [List.filter_eq_self.mpr fun _ _=>rfl]
      show (ws.map wM).map _=_
      rw [List.map_map]
      rfl
    rw [en,ac8 dR]
    exact cJ.here (h _ (.new hq2))
theorem aaT {p:Addr} {o:GO} (h:G p=some o) (n:a6D o=false):offC G p=some o:=by
  unfold offC
  simp only [h,n]
  rfl
theorem apG {G':Gp} (l:Le (offC G) G'):Le G (onC G G'):=fun a o h=>by
  unfold onC
  simp only [h]
  by_cases c:a6D o=true
  · rw [if_pos c]
  · rw [if_neg c]
    exact l a o (aaT h (by simpa using c))
theorem afV {a p l m d c:Int} {i:Nat} {t:n6} {ρ:aN} {q f:Addr} {ws:List Str} (hi:at3 ρ i=some (.ref f)) (hf:G f=some (.clo bI (.ref q))) (hq:G q=some (.lst (ws.map wM))) (h6:∀ w∈ws,aU w∈six) (hl:ws.length≤20000)
    (ht:∀ Q:List D→Gp→Prop,Q [pcD a p l m d c] G→t ρ G Q) (h:∀ G',Le G G'→R (.tup (ws.map fun w => .int (jG (uX a p l m d c) w))) G'):uT i bI (cD K A) t ρ G R :=
  ⟨f,.ref q,hi,hf,ht _ ⟨hf,a8Y (aaT hq rfl) h6 hl fun G' l'=>h _ (apG l')⟩⟩
def HS (G:Gp) (p:Addr) (xs:List D) (G':Gp):Prop:=G' p=some (.lst xs)∧∀ q u,q≠p→G q=some u→G' q=some u
theorem HS.le {p:Addr} {xs:List D} {G':Gp} (h:HS G p xs G'):Le (aL G p (.lst xs)) G':=fun q u e=>by
  by_cases c:q=p
  · subst c
    rw [aF] at e
    exact e ▸ h.1
  · rw [cG c] at e
    exact h.2 q u c e
theorem HS.new {p q:Addr} {xs:List D} {G':Gp} {o:GO} (h:HS G p xs G') (hq:G' q=none):HS G p xs (aL G' q o):=⟨aR h.1 hq,fun r u n e=>aR (h.2 r u n e) hq⟩
theorem HS.trans {p:Addr} {xs ys:List D} {G' G2:Gp} (h:HS G p xs G') (h2:HS G' p ys G2):HS G p ys G2:=⟨h2.1,fun r u n e=>h2.2 r u n (h.2 r u n e)⟩
theorem HS.put {p:Addr} {xs ys:List D} (h:G p=some (.lst xs)):HS G p ys (aL G p (.lst ys)):=⟨aF,fun r u n e=>by rw [cG n];exact e⟩
theorem HS.leG {p:Addr} {xs:List D} {G':Gp} (h:HS G p xs G') (hp:G p=none):Le G G':=fun r u e=>h.2 r u (fun z=>by subst z;rw [hp] at e;cases e) e
theorem HS.mk0 {p:Addr} {xs:List D}:HS G p xs (aL G p (.lst xs)):=⟨aF,fun r u n e=>by rw [cG n];exact e⟩
theorem HS.snd {p:Addr} {xs ys:List D} {G':Gp} (h:HS G p xs G'):HS G p ys (aL G' p (.lst ys)):=h.trans (.put h.1)
theorem ajY {ks:List Str} {t:n6} {ρ:aN}:a4W ks t ρ G R=∀ p,G p=none→t ρ (aL G p (.tV false [])) fun ds G2=>G2 p=some (.tV false [])∧R (.ref p) (aL G2 p (.tV false (kvS ks ds []))):=rfl
theorem apH {j y z:Str}:oJ (.str j) [.str y,.str z] G R=(j.length+(j.length+1) * z.length≤16777216∧R (.str (Txt.replace j y z)) G):=rfl
abbrev a7L:List Str:=["due", "came", "amount", "aisle", "place"]
theorem ajZ {a p l m d c:Int} {n:Str} (h:n∈six):(qY (kvS a7L [.int d,.int c,.int m,.int a,.int p] []) (.inl (.inr n))).getD (.int l) = .int ((uX a p l m d c).getD (idF n) 0):=by
  have h:n = "due" ∨ n = "came" ∨ n = "amount" ∨ n = "aisle" ∨ n = "place" ∨ n = "lot" := by simpa [six] using h
  rcases h with h | h | h | h | h | h <;> (subst h;rfl)
theorem ac9 {a p l m d c:Int} {q:Addr} {ws:List Str} (hq:G q=some (.lst (ws.map D.str))) (h6:∀ w∈ws,aU w∈six) (hl:ws.length≤20000) (h:∀ G' r,Le G G'→G' r=some (.lst (ws.map fun w => .int (jG (uX a p l m d c) w)))→R (.ref r) G'):fB K A [pcD a p l m d c,.ref q] G R EX:=by
  have b:=sZ
  refine ⟨rfl,?_⟩
  show mH K A _ _ [some (pcD a p l m d c),some (.ref q),none,none,none,none,none] G
  exists mH
  intro r hr
  have nq:q≠r:=a0K hq hr
  exists oU
  rw [xH (aQ (aR hq hr))]
  refine a0I (fun k ρ G'=>∃ r3 r4 r5 r6,ρ=[some (pcD a p l m d c),some (.ref q),some (.ref r),r3,r4,r5,r6]∧HS G r ((ws.take k).map fun w => .int (jG (uX a p l m d c) w)) G') ⟨_,_,_,_,rfl,HS.mk0⟩ (fun k ρ G' ⟨_,_,_,_,_,s⟩=>aQ (s.2 _ _ nq hq)) (fun k e ρ G' hk ⟨_,_,_,_,e1,s⟩=>?_) fun ρ G' ⟨_,_,_,_,e1,s⟩=>?_
  · subst e1
    rw [List.getElem?_map] at hk
    obtain ⟨w,hw,rfl⟩:=Option.map_eq_some_iff.mp hk
    have w6:=h6 w (List.mem_of_getElem? hw)
    have wl:=a8U w6
    exists nG
    rw [apH,ajV w6]
    refine ⟨by rw [show (Str.ofString "").length=0 from rfl];omega,?_⟩
    exists jM,ajY
    intro z hz
    have i3:∀ {R:dG} {G:Gp},bR (pcD a p l m d c) (.int 3) G R=R (.int d) G:=fun {R G}=>rfl
    have i4:∀ {R:dG} {G:Gp},bR (pcD a p l m d c) (.int 4) G R=R (.int c) G:=fun {R G}=>rfl
    rw [i3,i4]
    refine ⟨aF,?_⟩
    rw [a09]
    have s2:=s.new (o := .tV false (kvS a7L [.int d,.int c,.int m,.int a,.int p] [])) hz
    have told:=ajZ (a:=a) (p:=p) (l:=l) (m:=m) (d:=d) (c:=c) w6
    have dz:aL G' z (.tV false (kvS a7L [.int d,.int c,.int m,.int a,.int p] [])) z=some (.tV false (kvS a7L [.int d,.int c,.int m,.int a,.int p] [])):=aF
    generalize aL G' z (.tV false (kvS a7L [.int d,.int c,.int m,.int a,.int p] []))=G2 at s2 dz ⊢
    exists jL,afK dz
    rw [afL dz rfl rfl,told]
    exists jK
    have sl:∀ {R:dG},yS (.str w) none (some 1) G2 R=R (.str (Txt.slice w none (some 1))) G2:=fun {R}=>propext ⟨fun z=>z.2,fun z=>⟨by omega,z⟩⟩
    rw [sl]
    walk_at "wr"
    have nx:∀ {v:Int} {r5 r6:Option D},v=jG (uX a p l m d c) w→eY K A (fun _=>jJ EX) { nx:=fun ρ G'=>∃ r3 r4 r5 r6,ρ=[some (pcD a p l m d c),some (.ref q),some (.ref r),r3,r4,r5,r6]∧HS G r ((ws.take (k+1)).map fun w => .int (jG (uX a p l m d c) w)) G',rt:=cJ R,bk:=iM K A (fun _=>jJ EX) { nx:=fun _ G'=>cJ R .non G',rt:=cJ R },ct:=fun ρ G'=>∃ r3 r4 r5 r6,ρ=[some (pcD a p l m d c),some (.ref q),some (.ref r),r3,r4,r5,r6]∧HS G r ((ws.take (k+1)).map fun w => .int (jG (uX a p l m d c) w)) G' } [some (pcD a p l m d c),some (.ref q),some (.ref r),some (.str w),r5,r6,some (.int v)] G2:=fun {v r5 r6} ev=>by
      subst ev
      exists eY
      rw [w5,aQ s2.1]
      refine ⟨rfl,?_⟩
      rw [a0J s2.1 (by rw [List.length_map,List.length_take];omega)]
      refine ⟨_,_,_,_,rfl,?_⟩
      have en:(ws.take (k+1)).map (fun w=>D.int (jG (uX a p l m d c) w))=(ws.take k).map (fun w=>D.int (jG (uX a p l m d c) w))++[.int (jG (uX a p l m d c) w)]:=by
        rw [List.take_add_one,hw,List.map_append]
        rfl
      rw [en]
      exact s2.snd
    by_cases cc:Txt.startswith w "-" = true
    · have e0:Txt.slice w none (some 1)=Str.ofString "-" := of_decide_eq_true ((qK w).trans cc)
      rw [if_pos (by simp [e0])]
      walk_at "wr"
      refine nx ?_
      unfold jG
      rw [if_pos cc]
      omega
    · have e0:¬ Txt.slice w none (some 1)=Str.ofString "-" := of_decide_eq_false ((qK w).trans (by simpa using cc))
      rw [if_neg (by simpa using e0)]
      walk_at "wr"
      refine nx ?_
      unfold jG
      rw [if_neg cc]
  · subst e1
    rw [List.length_map,List.take_length] at s
    exists iM
    exact cJ.here (h _ _ (s.leG hr) s.1)
theorem ak0 {n:Str} {r known:List Str} (a:n∈six) (b:n ∉ known):gN (n :: r) known=gN r (known++[n]):=by
  rw [gN,List.contains_iff_mem.mpr a]
  have:known.contains n=false:=by rw [← Bool.not_eq_true,List.contains_iff_mem];exact b
  rw [this]
  rfl
theorem apI {n:Str} {r known:List Str} (a:¬ (n∈six∧n ∉ known)):gN (n :: r) known=false:=by
  rw [← Bool.not_eq_true]
  intro z
  rw [gN,Bool.and_eq_true,Bool.and_eq_true,List.contains_iff_mem,Bool.not_eq_true',← Bool.not_eq_true,List.contains_iff_mem] at z
  exact a z.1
theorem acA {F:iG} {ex:aN→aX} {kn:Addr} {known:List Str} {w:Str} {r0 r3:Option D} (hk:G kn=some (.lst (known.map D.str))) (wl:w.length≤sizeLine) (kl:known.length≤20000)
    (h1:aU w∈six→aU w ∉ known→∀ G' r3,HS G kn ((known++[aU w]).map D.str) G'→F.nx [r0,some (.ref kn),some (.str w),r3] G') (h2:¬ (aU w∈six∧aU w ∉ known)→∀ G',Le G G'→F.rt (.bl false) G'):mK K A ex F [r0,some (.ref kn),some (.str w),r3] G:=by
  have b:=sZ
  have sl1:∀ {R:dG},yS (.str w) none (some 1) G R=R (.str (Txt.slice w none (some 1))) G:=fun {R}=>propext ⟨fun z=>z.2,fun z=>⟨wl,z⟩⟩
  have sl2:∀ {R:dG},yS (.str w) (some 1) none G R=R (.str (Txt.slice w (some 1) none)) G:=fun {R}=>propext ⟨fun z=>z.2,fun z=>⟨wl,z⟩⟩
  have go:∀ n,n=aU w→iQ K A ex F [r0,some (.ref kn),some (.str w),some (.str n)] G:=fun n en=>by
    subst en
    exists iQ
    intro p hp
    refine ajX (ys:=six) dR ?_
    walk_at "wr"
    have l1:=aQ (aR (o := .lst (six.map D.str)) hk hp)
    by_cases c:aU w∈six
    · rw [if_neg (by rw [List.contains_iff_mem.mpr c];decide)]
      refine axT l1 ?_
      walk_at "wr"
      by_cases c2:aU w∈known
      · rw [if_pos (List.contains_iff_mem.mpr c2)]
        exact h2 (fun z=>z.2 c2) _ (.new hp)
      · rw [if_neg (by rw [List.contains_iff_mem];exact c2)]
        exists pC
        rw [w5,aQ (aR hk hp)]
        refine ⟨rfl,?_⟩
        rw [a0J (aR hk hp) (by rw [List.length_map];omega)]
        refine h1 c c2 _ _ ?_
        rw [List.map_append]
        have s:HS G kn (known.map D.str) (aL G p (.lst (six.map D.str))):=⟨aR hk hp,fun q u n e=>aR e hp⟩
        exact s.snd
    · rw [if_pos (by rw [← Bool.not_eq_true,List.contains_iff_mem];exact c)]
      exact h2 (fun z=>c z.1) _ (.new hp)
  exists mK,pD,sl1
  by_cases cc:Txt.startswith w "-" = true
  · have e0:Txt.slice w none (some 1)=Str.ofString "-" := of_decide_eq_true ((qK w).trans cc)
    rw [if_pos (by simp [e0])]
    exists sl2
    refine go _ ?_
    unfold aU
    rw [if_pos cc]
  · have e0:¬ Txt.slice w none (some 1)=Str.ofString "-" := of_decide_eq_false ((qK w).trans (by simpa using cc))
    rw [if_neg (by simpa using e0)]
    walk_at "wr"
    refine go _ ?_
    unfold aU
    rw [if_neg cc]
theorem apJ {x:Str} (hx:x.length≤10000) (h:∀ G',Le G G'→R (.bl (gN ((Txt.split x " ").map aU) [])) G'):gM K A [.str x] G R EX:=by
  have b:=sZ
  have sl:=PyProof.Rows.split_le x " "
  refine ⟨rfl,?_⟩
  show jB K A _ _ [some (.str x),none,none,none] G
  exists jB,uD
  intro kn hkn
  exists u9
  refine a1A hx fun q hq=>?_
  rw [xH dR]
  have nq:q≠kn:=fun z=>by subst z;rw [aF] at hq;cases hq
  refine a0I (fun k ρ G'=>∃ r2 r3,ρ=[some (.str x),some (.ref kn),r2,r3]∧HS G kn ((((Txt.split x " ").map aU).take k).map D.str) G'∧G' q=some (.lst ((Txt.split x " ").map D.str))∧gN ((Txt.split x " ").map aU) []=gN (((Txt.split x " ").map aU).drop k) (((Txt.split x " ").map aU).take k)) ⟨_,_,rfl,HS.mk0.new hq,aF,rfl⟩ (fun k ρ G' ⟨_,_,_,_,e,_⟩=>aQ e) (fun k d ρ G' hk ⟨_,_,e1,s,e2,e3⟩=>?_) fun ρ G' ⟨_,_,e1,s,e2,e3⟩=>?_
  · subst e1
    rw [List.getElem?_map] at hk
    obtain ⟨w,hw,rfl⟩:=Option.map_eq_some_iff.mp hk
    have hb:((Txt.split x " ").map aU)[k]?=some (aU w):=by rw [List.getElem?_map,hw];rfl
    have hd:((Txt.split x " ").map aU).drop k=aU w :: ((Txt.split x " ").map aU).drop (k+1):=by
      obtain ⟨hlt,e⟩:=List.getElem?_eq_some_iff.mp hb
      rw [List.drop_eq_getElem_cons hlt,e]
    have ht:((Txt.split x " ").map aU).take (k+1)=((Txt.split x " ").map aU).take k++[aU w]:=by rw [List.take_add_one,hb];rfl
    walk_at "wr"
    refine acA s.1 (a1B hx (List.mem_of_getElem? hw)) (by rw [List.length_take,List.length_map];omega) (fun c1 c2 G2 r3 s2=>⟨_,_,rfl,?_,s2.2 _ _ nq e2,?_⟩) fun c G2 l=>?_
    · rw [ht];exact s.trans s2
    · rw [e3,hd,ak0 c1 c2,ht]
    · have z:=h G2 ((s.leG hkn).trans l)
      rw [e3,hd,apI c] at z
      exact cJ.here z
  · subst e1
    rw [List.length_map] at e3
    rw [List.drop_eq_nil_of_le (by rw [List.length_map];omega)] at e3
    exists u6
    have z:=h G' (s.leG hkn)
    rw [e3] at z
    exact cJ.here z
theorem acB {d:D} (hd:∀ {Q:dG},Q (.bl false) G→aD K [d,.ty "str"] G Q) (h:R (.bl false) G):gM K A [d] G R EX:=by
  refine ⟨rfl,?_⟩
  show jB K A _ _ [some d,none,none,none] G
  exists jB
  refine hd ?_
  walk_at "wr"
  exact cJ.here h
theorem a3P (T:Txt K mg A) {d:D} (hr:∀ (R:dG) (EX:aX),(∀ G',Le G G'→EX A.aW G')→dF K A [d] G R EX) (h:∀ G',Le G G'→R (.bl true) G'):fD K A [d] G R EX:=by
  refine ⟨rfl,?_⟩
  show mL K A _ _ [some d,none] G
  exists mL
  refine hr _ _ fun G' l=>⟨T.bL,fun x hx=>?_⟩
  have l2:Le G (aL G' x (.z9 A.aW)):=l.trans (.new hx)
  have he:aL G' x (.z9 A.aW) x=some (.z9 A.aW):=aF
  generalize aL G' x (.z9 A.aW)=G2 at l2 he ⊢
  walk_at "wr"
  refine nA he T.mU T.bW ?_
  walk_at "wr"
  refine nA he T.mU T.cL ?_
  exists nJ
  refine nA he T.mU T.d8 ?_
  walk_at "wr"
  refine nA he T.mU T.cN ?_
  exists nH
  refine nA he T.mU T.cM ?_
  walk_at "wr"
  refine ajJ he T.mU T.lH ?_
  walk_at "wr"
  exact cJ.here (h _ l2)
theorem ak1 {i:Int} (h:R (.bl true) G):iZ K A [.int i] G R EX:=by
  refine ⟨rfl,?_⟩
  replace h:=cJ.here h
  show qF K A _ _ [some (.int i)] G
  exists qF
  exact h
def ak2 (G:Gp) (d:D):Prop:=d = .non∨d = .int 7∨d = .bl true∨∃ p xs,d = .ref p∧G p=some (.lst xs)
theorem a7M {d:D} (h:ak2 G d) {Q:dG} (z:Q (.bl false) G):aD K [d,.ty "str"] G Q:=by
  rcases h with rfl | rfl | rfl | ⟨p,xs,rfl,e⟩
  · rw [yI];exact z
  · rw [yJ];exact z
  · rw [a0F];exact z
  · rw [ap5 (T := "list") (by unfold tyD;simp only [e]) (by decide)]
    exact z
theorem afW:(Txt.split "-lot came" " ")=(["-lot", "came"]:List Str)∧okN ((Txt.split "-lot came" " ").map aU):=by
  have e:(Txt.split "-lot came" " ")=(["-lot", "came"]:List Str):=by decide +kernel
  rw [e]
  refine ⟨rfl,?_⟩
  rw [← a5K]
  decide +kernel
theorem ak3 {a p l m d c:Int}:jG (uX a p l m d c) "-lot" = 0 - l:=by
  have h1:Txt.startswith "-lot" "-" = true:=by decide +kernel
  have h2:idF (aU "-lot")=5:=by decide +kernel
  unfold jG
  rw [if_pos h1,h2]
  show - l=0 - l
  omega
theorem afX {a p l m d c:Int}:jG (uX a p l m d c) "came" = c:=by
  have h1:¬ Txt.startswith "came" "-" = true:=by decide +kernel
  have h2:idF (aU "came")=1:=by decide +kernel
  unfold jG
  rw [if_neg h1,h2]
  rfl
theorem kW:∀ ns:List Int,jE (ns.map D.int) (ns.map D.int)=true
  | []=>rfl
  | n :: r=>by
    rw [List.map_cons,jE,kW r,Bool.and_true]
    show (n == n)=true
    simp
theorem kY:∀ ns:List Int,(ns.map D.int).all (aM 20)=true
  | []=>rfl
  | n :: r=>by rw [List.map_cons,List.all_cons,kY r];rfl
theorem acC (T:Txt K mg A) {F:iG} {ex:aN→aX} {a:Addr} {d:D} {c1 c2:Int} {s0:D} {du:Int} {pa pp pl pm pd pc:Int} (hT:G A.cY=some apE) (hd:(∃ x,d = .str x∧x.length≤10000)∨ak2 G d) (h:∀ G',Le G G'→F.rt (.bl true) G') :
    a5I K A ex F [some (.ref a),some d,some (.int c1),some (.int c2),some s0,some (.int du),some (pcD pa pp pl pm pd pc),none,none,none] G:=by
  have b:=sZ
  exists a5I
  rcases hd with ⟨x,rfl,hx⟩ | hd
  · have sl:=PyProof.Rows.split_le x " "
    refine apJ hx fun G1 l1=>?_
    walk_at "wr"
    have hT1:=l1 _ _ hT
    by_cases c:gN ((Txt.split x " ").map aU) []=true
    · have ok:=(a5K _).mp c
      have h6:∀ w∈Txt.split x " ",aU w∈six:=fun w hw=>(ok _ (List.mem_map.mpr ⟨w,hw,rfl⟩)).1
      rw [if_neg (by rw [c];decide)]
      exists aaK
      refine xO hT1 hx (fun _ G2 q f l2 hq hf=>?_) fun nk=>absurd ok nk
      exists aaJ
      refine a1A hx fun q2 hq2=>?_
      have l3:Le G2 (aL G2 q2 (.lst ((Txt.split x " ").map D.str))) := .new hq2
      walk_at "wr"
      refine ac9 aF h6 (by omega) fun G3 r l4 hr=>?_
      have l5:=l3.trans l4
      exists a7G
      refine afV rfl (l5 _ _ hf) (l5 _ _ hq) h6 (by omega) (fun Q z=>z) fun G4 l6=>?_
      have l7:=l5.trans l6
      have en:((Txt.split x " ").map fun w=>D.int (jG (uX pa pp pl pm pd pc) w))=((Txt.split x " ").map (jG (uX pa pp pl pm pd pc))).map D.int:=by
        rw [List.map_map]
        rfl
      rw [en]
      rw [en] at hr
      have hfl:((Txt.split x " ").map (jG (uX pa pp pl pm pd pc))).length≤20000:=by rw [List.length_map];omega
      have ask:∀ {G5:Gp} {R:dG} {r9:Option D},Le G2 G5→(∀ G6,Le G5 G6→R (.tup (((Txt.split x " ").map (jG (uX pa pp pl pm pd pc))).map D.int)) G6)→uT 7 bI (cD K A) (aA (aB 6) aC) [some (.ref a),some (.str x),some (.int c1),some (.int c2),some s0,some (.ref r),some (pcD pa pp pl pm pd pc),some (.ref f),some (.tup (((Txt.split x " ").map (jG (uX pa pp pl pm pd pc))).map D.int)),r9] G5 R:=fun {G5 R r9} l z=>by
        refine afV rfl (l _ _ hf) (l _ _ hq) h6 (by omega) (fun Q z=>z) fun G6 l6=>?_
        rw [en]
        exact z G6 l6
      have hr4:=l6 _ _ hr
      generalize (Txt.split x " ").map (jG (uX pa pp pl pm pd pc))=ms at *
      exists a7F
      refine aaF (fun _=>false) (fun e=>e) (by show (ms.map D.int).length < sizeLine;rw [List.length_map];omega) trivial (fun e he G' l' Q hQ=>?_) (fun e he z=>absurd z (by decide)) fun p5 hp5=>?_
      · have he:e∈ms.map D.int:=he
        obtain ⟨i,_,rfl⟩:=List.mem_map.mp he
        walk_at "wr"
        refine ak1 ?_
        walk_at "wr"
        exact hQ _ (.refl _)
      · rw [List.filter_eq_nil_iff.mpr fun _ _=>by decide]
        intro p6 hp6
        rw [a0G (aQ (aR aF hp6)) dR rfl rfl]
        walk_at "wr"
        rw [show jE (List.map (fun e=>e) ([]:List D)) []=true from rfl]
        walk_at "wr"
        have l8:Le G4 (aL (aL G4 p5 (.lst (List.map (fun e=>e) ([]:List D)))) p6 (.lst [])):=(Le.new hp5).trans (.new hp6)
        generalize aL (aL G4 p5 (.lst (List.map (fun e=>e) ([]:List D)))) p6 (.lst [])=G5 at l8 ⊢
        intro p7 hp7
        have l9:Le G5 (aL G5 p7 (.lst (ms.map D.int))) := .new hp7
        rw [a0G dR (aQ (l9 _ _ (l8 _ _ hr4))) (kY ms) (kY ms),kW]
        exists a7E
        have l10:=(l7.trans l8).trans l9
        have hr5:=l9 _ _ (l8 _ _ hr4)
        generalize aL G5 p7 (.lst (ms.map D.int))=G6 at l10 hr5 ⊢
        obtain ⟨lc,lk⟩:=afW
        refine xO (l10 _ _ (l2 _ _ hT1)) (by decide +kernel) (fun _ G7 q8 f8 l11 hq8 hf8=>?_) fun nk=>absurd lk nk
        rw [lc] at hq8
        exists a7D
        refine afV rfl hf8 hq8 (by decide +kernel) (by decide) (fun Q z=>z) fun G8 l12=>?_
        rw [show ((["-lot", "came"]:List Str).map fun w=>D.int (jG (uX pa pp pl pm pd pc) w))=[.int (0 - pl),.int pc] by rw [← ak3 (a:=pa) (p:=pp) (l:=pl) (m:=pm) (d:=pd) (c:=pc)];rw [show pc=jG (uX pa pp pl pm pd pc) "came" from afX.symm];rfl]
        have i4:∀ {R:dG} {G:Gp},bR (pcD pa pp pl pm pd pc) (.int 4) G R=R (.int pc) G:=fun {R G}=>rfl
        rw [i4]
        have et:∀ {R:dG},lR (.tup [.int (0 - pl),.int pc]) (.tup [.int (0 - pl),.int pc]) G8 R=R (.bl true) G8:=fun {R}=>by
          rw [aaD,show eqP (.tup [D.int (0 - pl),.int pc]) (.tup [.int (0 - pl),.int pc])=true from kW [0 - pl,pc]]
          exact propext ⟨fun z=>z.2.2,fun z=>⟨rfl,rfl,z⟩⟩
        rw [et]
        walk_at "wr"
        refine ask ((l10.trans l11).trans l12) fun G9 l13=>?_
        walk_at "wr"
        intro p9 hp9
        have l14:Le G9 (aL G9 p9 (.lst (ms.map D.int))) := .new hp9
        rw [a8J dR (aQ (l14 _ _ (l13 _ _ (l12 _ _ (l11 _ _ hr5))))) (kY ms) (kY ms),kW]
        exact h _ ((((((l1.trans l2).trans l10).trans l11).trans l12).trans l13).trans l14)
    · rw [if_pos (by simpa using c)]
      refine a3P T (fun R EX z=>xO hT1 hx (fun ok=>absurd ((a5K _).mpr ok) c) fun _ G' l'=>z G' l') fun G2 l2=>?_
      exact h _ (l1.trans l2)
  · refine acB (fun {Q} z=>a7M hd z) ?_
    walk_at "wr"
    refine a3P T (fun R EX z=>ac7 (fun {Q} z=>a7M hd z) (z _ (.refl _))) fun G2 l2=>?_
    exact h _ l2
def cellAt (ns:List Int) (k:Nat):Int:=if k < ns.length then ns.getD k 0 else if ns=[] then 0 else
  let m:=(ns.getD (k % ns.length) 0 * 48271+k * 104729) % 2147483647
  (m * m+48271 * k) % 2147483629
theorem a1C {a:Addr} {ns:List Int} (hG:G a=some (.rol (ns.map D.int))) {k:Nat} (hk:k < 1000) (h:R (.int (cellAt ns k)) G):bD K A [.ref a,.int (k:Int)] G R EX:=by
  refine ⟨rfl,?_⟩
  replace h:=cJ.here h
  show mF K A _ _ [some (.ref a),some (.int k),none] G
  exists mF,pX (rZ hG)
  by_cases c:k < ns.length
  · rw [if_pos (decide_eq_true (by omega))]
    have e:uL (ns.map D.int) (k:Int)=some (.int (ns.getD k 0)):=by rw [o7];simp [c,List.getD]
    rw [rY (rZ hG) e]
    rw [show cellAt ns k=ns.getD k 0 by unfold cellAt;rw [if_pos c]] at h
    exact h
  · rw [if_neg (by simp;omega)]
    exists oR,pX (rZ hG)
    by_cases hn:ns=[]
    · subst hn
      rw [show cellAt [] k=0 by unfold cellAt;simp] at h
      exact h
    · have h0:0 < (ns.length:Int):=by cases ns with
        | nil=>exact absurd rfl hn
        | cons n r=>simp
      have e0:((ns.length:Int) == 0)=false:=by simp;exact hn
      rw [e0]
      exists oO,pX (rZ hG)
      have hm:k % ns.length < ns.length:=Nat.mod_lt _ (by omega)
      have e2:uL (ns.map D.int) ((k:Int) % (ns.length:Int))=some (.int (ns.getD (k % ns.length) 0)):=by
        rw [← Int.natCast_emod,o7];simp [hm,List.getD]
      rw [rY (rZ hG) e2]
      exists oN
      have ec:cellAt ns k=((ns.getD (k % ns.length) 0 * 48271+(k:Int) * 104729) % 2147483647 * ((ns.getD (k % ns.length) 0 * 48271+(k:Int) * 104729) % 2147483647)+48271 * (k:Int)) % 2147483629:=by
        unfold cellAt
        rw [if_neg c,if_neg hn]
      rw [← ec]
      exact h
def Short (ws:List Str):Prop:=∀ w∈ws,w.length≤20
theorem acD {xs ys:List Str} (a:Short xs) (b:Short ys):Short (xs++ys):=fun w hw=>(List.mem_append.mp hw).elim (a w) (b w)
theorem afY:∀ (l:List Str) (j:Nat),(l.map D.str).eraseIdx j=(l.eraseIdx j).map D.str
  | [],_=>rfl
  | _ :: _,0=>rfl
  | a :: r,j+1=>by
    show D.str a :: (r.map D.str).eraseIdx j=D.str a :: (r.eraseIdx j).map D.str
    rw [afY r j]
def auD (G:Gp) (p q:Addr) (xs ys:List D) (G':Gp):Prop:=G' p=some (.lst xs)∧G' q=some (.lst ys)∧∀ r u,r≠p→r≠q→G r=some u→G' r=some u
theorem a8Z {F:iG} {ex:aN→aX} {a l p:Addr} {ns:List Int} {ls ws:List Str} {k:Nat} {r2:Option D} (hG:G a=some (.rol (ns.map D.int))) (hl:G l=some (.lst (ls.map D.str))) (hp:G p=some (.lst (ws.map D.str))) (nlp:l≠p) (l0:0 < ls.length) (l6:ls.length≤6) (sl:∀ w∈ls,w.length≤6) (wl:ws.length≤6) (hk:k < 100)
    (h:∀ G' r2 w j,w.length≤7→auD G l p ((ls.eraseIdx j).map D.str) ((ws++[w]).map D.str) G'→j < ls.length→F.nx [some (.ref a),some (.ref l),r2,some (.ref p),some (.int (k:Int))] G'):jF K A ex F [some (.ref a),some (.ref l),r2,some (.ref p),some (.int (k:Int))] G:=by
  have b:=sZ
  exists jF
  rw [show (2:Int)+(k:Int)=((2+k:Nat):Int) by omega]
  refine a1C hG (by omega) ?_
  exists nF
  rw [w5,aQ hp]
  refine ⟨rfl,fun z hz=>?_⟩
  generalize cellAt ns (2+k)=c
  obtain ⟨s,es,ls1⟩:∃ s:Str,uL [D.str "",.str "-"] (c % 2)=some (.str s)∧s.length≤1:=by
    rcases (show c % 2=0∨c % 2=1 by omega) with e | e
    · rw [e];exact ⟨"",rfl,by decide⟩
    · rw [e];exact ⟨"-",rfl,by decide⟩
  rw [rY dR es]
  have hl1:=aR (o := .lst [D.str "",.str "-"]) hl hz
  have hp1:=aR (o := .lst [D.str "",.str "-"]) hp hz
  have old:∀ q u,G q=some u→aL G z (.lst [D.str "",.str "-"]) q=some u:=fun q u e=>aR e hz
  generalize aL G z (.lst [D.str "",.str "-"])=G1 at hl1 hp1 old ⊢
  rw [w5,aQ hl1]
  refine ⟨rfl,?_⟩
  rw [pX (aQ hl1),List.length_map]
  have nz:(ls.length:Int)≠0:=by omega
  walk_at "wr"
  obtain ⟨j,ej,hj⟩:∃ j:Nat,c / 2 % (ls.length:Int)=(j:Int)∧j < ls.length:=by
    have h0:=Int.emod_nonneg (c / 2) nz
    have h1:=Int.emod_lt_of_pos (c / 2) (show (0:Int) < ls.length by omega)
    exact ⟨(c / 2 % (ls.length:Int)).toNat,by omega,by omega⟩
  rw [ej]
  have nl:=sl _ (List.getElem_mem hj)
  refine ajU hl1 (d := .str ls[j]) (by rw [List.getElem?_map,List.getElem?_eq_getElem hj];rfl) ?_
  rw [iK (by omega)]
  walk_at "wr"
  rw [a0J (show aL G1 l _ p=some (.lst (ws.map D.str)) by rw [cG (Ne.symm nlp)];exact hp1) (by rw [List.length_map];omega)]
  refine h _ _ (s++ls[j]) j (by rw [len_app];omega) ⟨?_,?_,fun r u n1 n2 e=>?_⟩ hj
  · rw [cG nlp,aF,afY]
  · rw [aF,List.map_append]
    rfl
  · rw [cG n2,cG n1]
    exact old _ _ e
theorem ak4 {a:Addr} {ns:List Int} (hG:G a=some (.rol (ns.map D.int))) (h:∀ G' p ws,Le G G'→G' p=some (.lst (ws.map D.str))→1≤ws.length→ws.length≤6→Short ws→R (.ref p) G'):j4 K A [.ref a] G R EX:=by
  have b:=sZ
  refine ⟨rfl,?_⟩
  show qG K A _ _ [some (.ref a),none,none,none,none] G
  exists qG
  intro l hl
  have l1:Le G (aL G l (.lst (six.map D.str))) := .new hl
  exists sX
  refine a1C (k:=1) (l1 _ _ hG) (by decide) ?_
  generalize cellAt ns 1=c
  exists sW
  intro p hp
  have nlp:l≠p:=fun z=>by subst z;rw [show aL G l _ l=_ from aF] at hp;cases hp
  have hp0:G p=none:=l1.free hp
  have na:a≠l:=a0K hG hl
  have na2:a≠p:=a0K hG hp0
  exists sV
  refine afI (fun k ρ G'=>∃ r2 r4 ls ws,ρ=[some (.ref a),some (.ref l),r2,some (.ref p),r4]∧auD G l p (ls.map D.str) (ws.map D.str) G'∧ls.length+k=6∧(∀ w∈ls,w.length≤6)∧ws.length=k∧Short ws) ⟨_,_,six,[],rfl,⟨aR aF hp,aF,fun r u n1 n2 e=>aR (aR e hl) hp⟩,rfl,by decide +kernel,rfl,fun w hw=>nomatch hw⟩ (fun k ρ G' hk ⟨_,_,ls,ws,e1,s,e2,e3,e4,e5⟩=>?_) fun ρ G' ⟨_,_,ls,ws,e1,s,e2,e3,e4,e5⟩=>?_
  · subst e1
    walk_at "wr"
    refine a8Z (s.2.2 _ _ na na2 hG) s.1 s.2.1 nlp (by omega) (by omega) e3 (by omega) (by omega) fun G2 r2 w j hw s2 hj=>?_
    refine ⟨_,_,_,_,rfl,⟨s2.1,s2.2.1,fun r u n1 n2 e=>s2.2.2 r u n1 n2 (s.2.2 r u n1 n2 e)⟩,?_,fun x hx=>e3 x (List.mem_of_mem_eraseIdx hx),?_,acD e5 fun x hx=>?_⟩
    · rw [List.length_eraseIdx_of_lt hj];omega
    · rw [List.length_append];show ws.length+1=k+1;omega
    · rw [List.mem_singleton] at hx;subst hx;omega
  · subst e1
    exists sU
    have c0:=Int.emod_nonneg c (show (6:Int)≠0 by decide)
    have c1:=Int.emod_lt_of_pos c (show (0:Int) < 6 by decide)
    refine cJ.here (h G' p ws (fun r u e=>s.2.2 r u (a0K e hl) (a0K e hp0) e) s.2.1 (by omega) (by omega) e5)
theorem afZ {p:Addr} {xs:List D} {lo hi:Option Int} (h:bH G p=some xs):yS (.ref p) lo hi G R=∀ q,G q=none→R (.ref q) (aL G q (.lst (cutD xs lo hi))):=by
  unfold yS
  simp only [h]
theorem apK {α:Type} {xs:List α} {k:Nat} (h:k≤xs.length):cutD xs (some (k:Int)) none=xs.drop k:=by
  unfold L2.cutD
  rw [HT.ah6,HT.ad2,Nat.min_eq_left h,List.take_of_length_le]
  rw [List.length_drop]
  exact Nat.le_refl _
theorem a7N (ws:List Str) (lo hi:Option Int):∃ ys:List Str,L2.cutD (ws.map D.str) lo hi=ys.map D.str∧ys.length≤ws.length∧∀ y∈ys,y∈ws:=by
  unfold L2.cutD
  rw [← List.map_drop,← List.map_take]
  exact ⟨_,rfl,by rw [List.length_take,List.length_drop];omega,fun y hy=>List.mem_of_mem_drop (List.mem_of_mem_take hy)⟩
def Fit (ys:List Str):Prop:=ys.length≤20∧∀ y∈ys,y.length≤60
theorem auE {F:dG} {p4 p5:Addr} {xs ys:List Str} {s:Str} (h4:G p4=some (.lst (xs.map D.str))) (h5:G p5=some (.lst (ys.map D.str))) (lx:xs.length≤6) (ly:ys.length≤6) (sx:Short xs) (sy:Short ys) (ss:s.length≤60)
    (h:∀ G' q zs,Le G G'→G' q=some (.lst (zs.map D.str))→Fit zs→F (.ref q) G'):∀ p,G p=none→bC (.ref p4) (.ref p) (aL G p (.lst [.str s])) fun x G1=>bC x (.ref p5) G1 F:=by
  have b:=sZ
  intro p hp
  rw [aaH (aR h4 hp) aF (by rw [List.length_map];show xs.length+1≤sizeLine;omega)]
  intro q hq
  rw [aaH aF (aR (aR h5 hp) hq) (by rw [List.length_append,List.length_map,List.length_map];show xs.length+1+ys.length≤sizeLine;omega)]
  intro r hr
  refine h _ r (xs++[s]++ys) (((Le.new hp).trans (.new hq)).trans (.new hr)) (by rw [aF,List.map_append,List.map_append];rfl) ⟨by rw [List.length_append,List.length_append];show xs.length+1+ys.length≤20;omega,fun y hy=>?_⟩
  rcases List.mem_append.mp hy with hy | hy
  · rcases List.mem_append.mp hy with hy | hy
    · have:=sx y hy;omega
    · rw [List.mem_singleton] at hy;subst hy;exact ss
  · have:=sy y hy;omega
theorem auF {F:dG} {p4 p5:Addr} {xs ys:List Str} {s:Str} {i:Int} (h4:G p4=some (.lst (xs.map D.str))) (h5:G p5=some (.lst (ys.map D.str))) (lx:xs.length≤6) (ly:ys.length≤6) (sx:Short xs) (sy:Short ys) (ss:s.length≤60)
    (h:∀ G' q zs,Le G G'→G' q=some (.lst (zs.map D.str))→Fit zs→F (.ref q) G'):∀ p,G p=none→bC (.ref p4) (.ref p) (aL G p (.lst [.str s])) fun x G1=>yS (.ref p5) (some i) none G1 fun y G2=>bC x y G2 F:=by
  have b:=sZ
  intro p hp
  rw [aaH (aR h4 hp) aF (by rw [List.length_map];show xs.length+1≤sizeLine;omega)]
  intro q hq
  have h5q:=aR (o := .lst (xs.map D.str++[.str s])) (aR (o := .lst [.str s]) h5 hp) hq
  unfold yS
  simp only [aQ h5q]
  intro t ht
  obtain ⟨zs,ez,lz,mz⟩:=a7N ys (some i) none
  rw [ez]
  rw [aaH (aR aF ht) aF (by rw [List.length_append,List.length_map,List.length_map];show xs.length+1+zs.length≤sizeLine;omega)]
  intro r hr
  refine h _ r (xs++[s]++zs) ((((Le.new hp).trans (.new hq)).trans (.new ht)).trans (.new hr)) (by rw [aF,List.map_append,List.map_append];rfl) ⟨by rw [List.length_append,List.length_append];show xs.length+1+zs.length≤20;omega,fun y hy=>?_⟩
  rcases List.mem_append.mp hy with hy | hy
  · rcases List.mem_append.mp hy with hy | hy
    · have:=sx y hy;omega
    · rw [List.mem_singleton] at hy;subst hy;exact ss
  · have:=sy y (mz y hy);omega
abbrev wrg:List Str:=["", "-", "--due", "dues", "du", "Due", "day", "-bin", "lot,", "ware", "due-", "+lot"]
theorem a90 {F:iG} {ex:aN→aX} {p p4 p5 p6:Addr} {ws xs ys:List Str} {y0 tw sg:Str} {c j m wy:Int} (hp:G p=some (.lst (ws.map D.str))) (h4:G p4=some (.lst (xs.map D.str))) (h5:G p5=some (.lst ((y0 :: ys).map D.str))) (h6:G p6=some (.lst (wrg.map D.str))) (w6:ws.length≤6) (lx:xs.length≤6) (ly:(y0 :: ys).length≤6) (sw:Short ws) (sx:Short xs) (sy:Short (y0 :: ys)) (tl:tw.length≤20) (gl:sg.length≤1)
    (h:∀ G' q zs,Le G G'→G' q=some (.lst (zs.map D.str))→Fit zs→F.rt (.ref q) G'):gK K A ex F [some (.ref p),some (.int c),some (.int j),some (.int m),some (.ref p4),some (.ref p5),some (.ref p6),some (.str tw),some (.str sg),some (.int wy)] G:=by
  have b:=sZ
  have fin:∀ {s:Str},s.length≤60→∀ p,G p=none→bC (.ref p4) (.ref p) (aL G p (.lst [.str s])) fun x G1=>bC x (.ref p5) G1 F.rt:=fun {s} hs=>auE h4 h5 lx ly sx sy hs h
  have ak5:∀ {s:Str} {i:Int},s.length≤60→∀ p,G p=none→bC (.ref p4) (.ref p) (aL G p (.lst [.str s])) fun x G1=>yS (.ref p5) (some i) none G1 fun y G2=>bC x y G2 F.rt:=fun {s i} hs=>auF h4 h5 lx ly sx sy hs h
  have l0:y0.length≤20:=sy y0 (by simp)
  have i0:∀ {R:dG},bR (.ref p5) (.int 0) G R=R (.str y0) G:=fun {R}=>rY (aQ h5) (show uL (D.str y0 :: ys.map D.str) 0=some (.str y0) from at0)
  have i12:∀ {R:dG},(∀ s:Str,s.length≤10→R (.str s) G)→bR (.ref p6) (.int (m % 12)) G R:=fun {R} z=>by
    obtain ⟨k,ek,hk⟩:∃ k:Nat,m % 12=(k:Int)∧k < 12:=⟨(m % 12).toNat,by omega,by omega⟩
    have hk':k < wrg.length:=hk
    rw [ek,rY (aQ h6) (d := .str wrg[k]) (by rw [o7,List.getElem?_map,List.getElem?_eq_getElem hk'];rfl)]
    have key:∀ w∈wrg,w.length≤10:=by decide +kernel
    exact z _ (key _ (List.getElem_mem hk'))
  have slt:∀ {R:dG} {lo hi:Option Int},yS (.str tw) lo hi G R=R (.str (Txt.slice tw lo hi)) G:=fun {R lo hi}=>propext ⟨fun z=>z.2,fun z=>⟨by omega,z⟩⟩
  have sl0:∀ {R:dG} {lo hi:Option Int},yS (.str y0) lo hi G R=R (.str (Txt.slice y0 lo hi)) G:=fun {R lo hi}=>propext ⟨fun z=>z.2,fun z=>⟨by omega,z⟩⟩
  have g16:gB K A ex F [some (.ref p),some (.int c),some (.int j),some (.int m),some (.ref p4),some (.ref p5),some (.ref p6),some (.str tw),some (.str sg),some (.int wy)] G:=by
    have g17:gA K A ex F [some (.ref p),some (.int c),some (.int j),some (.int m),some (.ref p4),some (.ref p5),some (.ref p6),some (.str tw),some (.str sg),some (.int wy)] G:=by
      exists gA
      exact h G p ws (.refl _) hp ⟨by omega,fun y hy=>by have:=sw y hy;omega⟩
    exists gB
    split
    · rw [pX (aQ h5)]
      walk_at "wr"
      split
      · rename_i c1
        rw [i0]
        refine a0L (by decide +kernel) (by omega) (by rw [show ((Str.ofString "\t\n").length:Int)=2 by decide +kernel];omega) fun ch _=>?_
        rw [iK (by show y0.length+1≤sizeLine;omega)]
        cases ys with
        | nil=>simp at c1
        | cons y1 ys =>
          have l1:y1.length≤20:=sy y1 (by simp)
          rw [rY (aQ h5) (show uL (D.str y0 :: D.str y1 :: ys.map D.str) 1=some (.str y1) from (by rw [show (1:Int)=((1:Nat):Int) from rfl,o7];rfl))]
          rw [iK (by rw [len_app];show y0.length+1+y1.length≤sizeLine;omega)]
          walk_at "wr"
          exact ak5 (by rw [len_app,len_app];show y0.length+1+y1.length≤60;omega)
      · exact g17
    · exact g17
  have g15:gC K A ex F [some (.ref p),some (.int c),some (.int j),some (.int m),some (.ref p4),some (.ref p5),some (.ref p6),some (.str tw),some (.str sg),some (.int wy)] G:=by
    exists gC
    split
    · rw [i0,iK (by omega)]
      walk_at "wr"
      exact ak5 (by rw [len_app];omega)
    · exact g16
  have g14:gF K A ex F [some (.ref p),some (.int c),some (.int j),some (.int m),some (.ref p4),some (.ref p5),some (.ref p6),some (.str tw),some (.str sg),some (.int wy)] G:=by
    exists gF
    split
    · rw [i0,i0]
      walk_at "wr"
      refine ⟨by omega,?_⟩
      rw [sl0]
      walk_at "wr"
      exact ak5 (by have:=Txt.slice_le y0 none (some ((y0.length:Int) - 1));omega)
    · exact g15
  have g13:gG K A ex F [some (.ref p),some (.int c),some (.int j),some (.int m),some (.ref p4),some (.ref p5),some (.ref p6),some (.str tw),some (.str sg),some (.int wy)] G:=by
    exists gG
    split
    · refine i12 fun s hs=>?_
      walk_at "wr"
      exact ak5 (by omega)
    · exact g14
  have g12:gH K A ex F [some (.ref p),some (.int c),some (.int j),some (.int m),some (.ref p4),some (.ref p5),some (.ref p6),some (.str tw),some (.str sg),some (.int wy)] G:=by
    exists gH
    split
    · refine i12 fun s hs=>?_
      walk_at "wr"
      exact fin (by omega)
    · exact g13
  have g11:gJ K A ex F [some (.ref p),some (.int c),some (.int j),some (.int m),some (.ref p4),some (.ref p5),some (.ref p6),some (.str tw),some (.str sg),some (.int wy)] G:=by
    exists gJ
    split
    · rw [iK (by rw [show (Str.ofString "-").length=1 from rfl];omega)]
      walk_at "wr"
      exact fin (by rw [len_app,show (Str.ofString "-").length=1 from rfl];omega)
    · exact g12
  exists gK
  split
  · rw [slt]
    walk_at "wr"
    split
    · rw [slt]
      walk_at "wr"
      exact fin (by have:=Txt.slice_le tw (some 1) none;omega)
    · exact g11
  · exact g11
theorem acE {p:Addr} {ws:List Str} {c:Int} (hp:G p=some (.lst (ws.map D.str))) (w1:1≤ws.length) (w6:ws.length≤6) (sw:Short ws) (h:∀ G' q zs,Le G G'→G' q=some (.lst (zs.map D.str))→Fit zs→R (.ref q) G'):fC K A [.ref p,.int c] G R EX:=by
  have b:=sZ
  refine ⟨rfl,?_⟩
  show mJ K A _ _ [some (.ref p),some (.int c),none,none,none,none,none,none,none,none] G
  have nz:(ws.length:Int)≠0:=by omega
  exists mJ
  rw [pX (aQ hp),List.length_map]
  exists pB,pA
  obtain ⟨j,ej,hj⟩:∃ j:Nat,c / 12 % (ws.length:Int)=(j:Int)∧j < ws.length:=by
    have h0:=Int.emod_nonneg (c / 12) nz
    have h1:=Int.emod_lt_of_pos (c / 12) (show (0:Int) < ws.length by omega)
    exact ⟨(c / 12 % (ws.length:Int)).toNat,by omega,by omega⟩
  obtain ⟨m,em,hm⟩:∃ m:Nat,c / 72 % (ws.length:Int)=(m:Int)∧m < ws.length:=by
    have h0:=Int.emod_nonneg (c / 72) nz
    have h1:=Int.emod_lt_of_pos (c / 72) (show (0:Int) < ws.length by omega)
    exact ⟨(c / 72 % (ws.length:Int)).toNat,by omega,by omega⟩
  rw [ej,afZ (aQ hp)]
  intro p4 hp4
  obtain ⟨xs,ex,lx,mx⟩:=a7N ws none (some (j:Int))
  rw [ex]
  exists p8
  have q1:=aR (o := .lst (xs.map D.str)) hp hp4
  rw [afZ (aQ q1)]
  intro p5 hp5
  rw [apK (by rw [List.length_map];omega),← List.map_drop]
  exists oZ
  intro p6 hp6
  have l1:Le G (aL (aL (aL G p4 (.lst (xs.map D.str))) p5 (.lst ((ws.drop j).map D.str))) p6 (.lst [.str "",.str "-",.str "--due",.str "dues",.str "du",.str "Due",.str "day",.str "-bin",.str "lot,",.str "ware",.str "due-",.str "+lot"])):=((Le.new hp4).trans (.new hp5)).trans (.new hp6)
  have h4:(aL (aL (aL G p4 (.lst (xs.map D.str))) p5 (.lst ((ws.drop j).map D.str))) p6 (.lst [.str "",.str "-",.str "--due",.str "dues",.str "du",.str "Due",.str "day",.str "-bin",.str "lot,",.str "ware",.str "due-",.str "+lot"])) p4=some (.lst (xs.map D.str)):=aR (aR aF hp5) hp6
  have h5:(aL (aL (aL G p4 (.lst (xs.map D.str))) p5 (.lst ((ws.drop j).map D.str))) p6 (.lst [.str "",.str "-",.str "--due",.str "dues",.str "du",.str "Due",.str "day",.str "-bin",.str "lot,",.str "ware",.str "due-",.str "+lot"])) p5=some (.lst ((ws.drop j).map D.str)):=aR aF hp6
  have h6:(aL (aL (aL G p4 (.lst (xs.map D.str))) p5 (.lst ((ws.drop j).map D.str))) p6 (.lst [.str "",.str "-",.str "--due",.str "dues",.str "du",.str "Due",.str "day",.str "-bin",.str "lot,",.str "ware",.str "due-",.str "+lot"])) p6=_:=aF
  generalize (aL (aL (aL G p4 (.lst (xs.map D.str))) p5 (.lst ((ws.drop j).map D.str))) p6 (.lst [.str "",.str "-",.str "--due",.str "dues",.str "du",.str "Due",.str "day",.str "-bin",.str "lot,",.str "ware",.str "due-",.str "+lot"]))=G1 at l1 h4 h5 h6 ⊢
  have sx:Short xs:=fun y hy=>sw y (mx y hy)
  have sy:Short (ws.drop j):=fun y hy=>sw y (List.mem_of_mem_drop hy)
  have ly:(ws.drop j).length≤6:=by rw [List.length_drop];omega
  exists oY
  rw [pX (aQ (l1 _ _ hp)),List.length_map]
  walk_at "wr"
  rw [em,rY (aQ (l1 _ _ hp)) (d := .str ws[m]) (by rw [o7,List.getElem?_map,List.getElem?_eq_getElem hm];rfl)]
  have tl:=sw _ (List.getElem_mem hm)
  generalize ws[m]=tw at tl ⊢
  exists oX
  refine a0L (by decide +kernel) (by omega) (by rw [show ((Str.ofString "abcdefghijklmnopqrstuvwxyz\t\n,").length:Int)=29 by decide +kernel];omega) fun ch _=>?_
  exists oW,oV
  have fin:∀ {s:Str},s.length≤60→∀ p,G1 p=none→bC (.ref p4) (.ref p) (aL G1 p (.lst [.str s])) fun x G1=>bC x (.ref p5) G1 (cJ R):=fun {s} hs=>auE h4 h5 (by omega) ly sx sy hs fun G' q zs l e f=>cJ.here (h G' q zs (l1.trans l) e f)
  split
  · exact fin (by omega)
  · cases hy:ws.drop j with
    | nil=>rw [List.drop_eq_nil_iff] at hy;omega
    | cons y0 ys =>
      rw [hy] at h5 ly sy
      exact a90 (l1 _ _ hp) h4 h5 h6 w6 (by omega) ly sw sx sy tl (Nat.le_refl 1) fun G' q zs l e f=>cJ.here (h G' q zs (l1.trans l) e f)
theorem ak6 {z:Str} {q:Addr} {ys:List Str} (h:bH G q=some (ys.map D.str)) (hl:(ys.map (·.length)).sum+ys.length * z.length≤16777216) (k:R (.str (Txt.join z ys)) G):uV (.str z) [.ref q] G R:=by
  have e:nC (ys.map D.str)=some ys:=by
    clear h hl k
    induction ys with
    | nil=>rfl
    | cons y ys ih=>show (nC (ys.map D.str)).map (y :: ·)=_;rw [ih];rfl
  show (match (bH G q).bind nC with | some ys=>_ | none=>_)
  rw [h]
  show (match nC (ys.map D.str) with | some ys=>_ | none=>_)
  rw [e]
  exact ⟨hl,k⟩
theorem acF {z y:Str} {ys:List Str}:Txt.join z (y :: ys)=ys.foldl (fun t q=>t++z++q) y:=by
  have key:∀ (ys:List Str) (y:Str),(⟨ys.foldl (fun acc p=>acc++z.cps++p.cps) y.cps⟩:Str)=ys.foldl (fun t q=>t++z++q) y:=by
    intro ys
    induction ys with
    | nil=>intro y;rfl
    | cons q ys ih=>intro y;exact ih (y++z++q)
  exact key ys y
theorem a7O {z:Str}:∀ (ys:List Str) (t:Str),(∀ y∈ys,y.length≤60)→(ys.foldl (fun t q=>t++z++q) t).length≤t.length+ys.length * (z.length+60)
  | [],t,_=>by simp
  | y :: r,t,h=>by
    have a:=a7O (z:=z) r (t++z++y) fun q hq=>h q (by simp [hq])
    have b:=h y (by simp)
    rw [List.foldl_cons,List.length_cons,Nat.add_mul,Nat.one_mul]
    rw [len_app,len_app] at a
    omega
theorem ag0 {z:Str} {ys:List Str} (h:ys.length≤20) (h2:∀ y∈ys,y.length≤60) (hz:z.length≤2):(Txt.join z ys).length≤3000:=by
  cases ys with
  | nil=>exact Nat.zero_le _
  | cons y r =>
    rw [acF]
    have a:=a7O (z:=z) r y fun q hq=>h2 q (by simp [hq])
    have b:=h2 y (by simp)
    have c:r.length * (z.length+60)≤20 * 62:=Nat.mul_le_mul (by rw [List.length_cons] at h;omega) (by omega)
    omega
theorem aaU:∀ ys:List Str,(∀ y∈ys,y.length≤60)→(ys.map (·.length)).sum≤ys.length * 60
  | [],_=>by simp
  | y :: r,h=>by
    have a:=aaU r fun q hq=>h q (by simp [hq])
    have b:=h y (by simp)
    rw [List.map_cons,List.sum_cons,List.length_cons]
    omega
theorem ag1 {z:Str} {q:Addr} {ys:List Str} (h:G q=some (.lst (ys.map D.str))) (f:Fit ys) (hz:z.length≤2) (k:(Txt.join z ys).length≤3000→R (.str (Txt.join z ys)) G):uV (.str z) [.ref q] G R:=by
  have a:=aaU ys f.2
  have b:ys.length * z.length≤20 * 2:=Nat.mul_le_mul f.1 hz
  have c:=f.1
  refine ak6 (aQ h) (by omega) (k (ag0 f.1 f.2 hz))
theorem w_text {a:Addr} {ns:List Int} (hG:G a=some (.rol (ns.map D.int))) (h:∀ G' d,Le G G'→((∃ x,d = .str x∧x.length≤10000)∨ak2 G' d)→R d G'):jT K A [.ref a] G R EX:=by
  have b:=sZ
  refine ⟨rfl,?_⟩
  show sY K A _ _ [some (.ref a),none,none,none] G
  exists sY
  refine ak4 hG fun G1 p ws l1 hp w1 w6 sw=>?_
  have fw:Fit ws:=⟨by omega,fun y hy=>by have:=sw y hy;omega⟩
  exists uI
  refine a1C (k:=8) (l1 _ _ hG) (by decide) ?_
  generalize cellAt ns 8=c
  exists uH
  refine ag1 hp fw (by decide) fun jl=>?_
  generalize Txt.join (Str.ofString " ") ws=tx at jl ⊢
  exists uG
  split
  · exact cJ.here (h _ _ l1 (.inl ⟨_,rfl,by omega⟩))
  · exists uF
    split
    · refine acE hp w1 w6 sw fun G2 q zs l2 hq fz=>?_
      refine ag1 hq fz (by decide) fun jl2=>?_
      exact cJ.here (h _ _ (l1.trans l2) (.inl ⟨_,rfl,by omega⟩))
    · exists uE
      refine ag1 hp fw (by decide) fun jl2=>?_
      generalize Txt.join (Str.ofString "  ") ws=tx2 at jl2 ⊢
      have e1:(Str.ofString " ").length=1:=by decide
      rw [iK (by rw [e1];omega),iK (by rw [e1];omega)]
      have ul:=PyProof.Rows.len_upper tx
      refine ⟨PyProof.Rows.fit_upper (by omega),fun q hq=>?_⟩
      have l2:=l1.trans (Le.new (o := .lst [.str tx2,.str (Str.ofString " " ++ tx),.str (tx++Str.ofString " "),.str (Txt.upper tx),.non,.ref p,.int 7,.bl true,.str "",.str "-",.str " "]) hq)
      have all:∀ d∈[D.str tx2,.str (Str.ofString " " ++ tx),.str (tx++Str.ofString " "),.str (Txt.upper tx),.non,.ref p,.int 7,.bl true,.str "",.str "-",.str " "],(∃ x,d = .str x∧x.length≤10000)∨ak2 (aL G1 q (.lst [.str tx2,.str (Str.ofString " " ++ tx),.str (tx++Str.ofString " "),.str (Txt.upper tx),.non,.ref p,.int 7,.bl true,.str "",.str "-",.str " "])) d:=by
        intro d hd
        simp only [List.mem_cons,List.not_mem_nil,or_false] at hd
        rcases hd with rfl | rfl | rfl | rfl | rfl | rfl | rfl | rfl | rfl | rfl | rfl
        · exact .inl ⟨_,rfl,by omega⟩
        · exact .inl ⟨_,rfl,by rw [len_app,e1];omega⟩
        · exact .inl ⟨_,rfl,by rw [len_app,e1];omega⟩
        · exact .inl ⟨_,rfl,by omega⟩
        · exact .inr (.inl rfl)
        · exact .inr (.inr (.inr (.inr ⟨p,_,rfl,aR hp hq⟩)))
        · exact .inr (.inr (.inl rfl))
        · exact .inr (.inr (.inr (.inl rfl)))
        · exact .inl ⟨_,rfl,by decide⟩
        · exact .inl ⟨_,rfl,by decide⟩
        · exact .inl ⟨_,rfl,by decide⟩
      obtain ⟨k,ek,hk⟩:∃ k:Nat,c / 3 % 11=(k:Int)∧k < 11:=⟨(c / 3 % 11).toNat,by omega,by omega⟩
      rw [ek]
      obtain ⟨d,ed⟩:∃ d,[D.str tx2,.str (Str.ofString " " ++ tx),.str (tx++Str.ofString " "),.str (Txt.upper tx),.non,.ref p,.int 7,.bl true,.str "",.str "-",.str " "][k]?=some d:=⟨_,List.getElem?_eq_getElem hk⟩
      rw [rY dR (by rw [o7];exact ed)]
      exact cJ.here (h _ _ l2 (all d (List.mem_of_getElem? ed)))
theorem main (T:Txt K mg A) (a:Addr) (ns:List Int) (hl:ns.length≤63) (G:Gp) (hG:G a=some (.rol (ns.map D.int))) (hT:G A.cY=some apE):a8S K A [.ref a] G (fun d _=>d = .bl true) (fun _ _=>False):=by
  refine ⟨rfl,?_⟩
  show afP K A _ _ [some (.ref a),none,none,none,none,none,none,none,none,none] G
  exists afP
  refine w_text hG fun G1 d l1 hd=>?_
  exists aaP
  refine a1C (k:=9) (l1 _ _ hG) (by decide) ?_
  exists aaO
  refine a1C (k:=10) (l1 _ _ hG) (by decide) ?_
  generalize cellAt ns 9=c1
  generalize cellAt ns 10=c2
  exists aaN,aaM
  have nz:c1 / 7 % 10000+1≠0:=by omega
  exists aaL
  refine acC T (l1 _ _ hT) hd fun G' l=>?_
  exact (cJ.here (R:=fun d _=>d=D.bl true) rfl:cJ (fun d _=>d=D.bl true) (.bl true) G')
end
end Law
namespace Law
open PySem PySem.Spec PyProof.Rows L2 L4 PySem.W
section
variable {P:Program} {w:World} {K:Fg} {mg:Str→Option Value} {base:Heap} {A:bO}
local macro_rules | `(tactic| walk_at "sc")=>`(tactic| exact ⟨rfl,rfl,rfl,by decide +kernel,rfl,by decide +kernel,by decide +kernel⟩)
theorem dc {qt:Bool} {x qual:Str} {st:Stmt} {f:Addr} {fd:FuncData} {ps:List Str} {k:Nat} {S:SI} {c:CB} {tb:aX→bK} (F:vJ K x qual st f fd) (hS:bF S.N ps (aH st)) (hc:S.calm=!qt) (hv:vZ S (aH st)=true) (hk:kB S 0 c (bN st)=true) (he:(fun EX=>mB S.gl K (fun _=>EX) c)=tb) (hg:∀ (j:Nat) (y:Str) (g:GT),S.gl[j]?=some (y,g)→GTs P w K mg base k y g) (hn:S.need=false:=by rfl):cR qt P w K mg base (kJ P w) (k+1) f fd ps (cT K (spD S.N.length ps.length tb)):=by
  rw [← he]
  exact aeW F hS hc hv hk hg hn
theorem dcP {qt:Bool} {x qual:Str} {st:Stmt} {f:Addr} {fd:FuncData} {ps:List Str} {k:Nat} {S:SI} {c:CB} {tb:aX→bK} (F:vJ K x qual st f fd) (hS:bF S.N ps (aH st)) (hc:S.calm=!qt) (hv:vZ S (aH st)=true) (hk:kB S 0 c (bN st)=true) (he:(fun EX=>mB S.gl K (fun _=>EX) c)=tb) (hg:∀ (j:Nat) (y:Str) (g:GT),S.gl[j]?=some (y,g)→GTs P w K mg base k y g):rT qt P w K mg base (kJ P w) (k+1) f fd ps (cT K (spD S.N.length ps.length tb)):=by
  rw [← he]
  exact abZ F hS hc hv hk hg
theorem a2A (T:Txt K mg A) (hB:Bse base mg A):cR false P w K mg base (kJ P w) 1 A.pY A.fX ["piece"] (cT K (iY K A)) :=
  dc (S:=a5D K A) (c:=a5C) T.gO (show bF ["piece"] ["piece"] _ from by walk_at "sc") rfl (by kernel_rfl) (by kernel_rfl) (by kernel_rfl) gln
theorem aaV (T:Txt K mg A) (hB:Bse base mg A):cR false P w K mg base (kJ P w) 1 A.a8O A.a0N ["word"] (cT K (tM K A)) :=
  dc (S:=apD K A) (c:=apC) T.xM (show bF ["word"] ["word"] _ from by walk_at "sc") rfl (by kernel_rfl) (by kernel_rfl) (by kernel_rfl) gln
theorem a7P (T:Txt K mg A) (hB:Bse base mg A):cR false P w K mg base (kJ P w) 2 A.uW A.lY ["text"] (cT K (jA K A)) :=
  dc (S:=a8R K A) (c:=a8Q) T.mQ (show bF ["text", "words", "names", "name"] ["text"] _ from by walk_at "sc") rfl (by kernel_rfl) (by kernel_rfl) (by kernel_rfl) (nZ ⟨T.afS,adU⟩ (nZ ⟨T.eO,eZ⟩ (nZ ⟨T.a0Z,T.mR,T.fP,T.iU,T.fQ⟩ (nZ ⟨_,_,_,(aaV T hB).mono (by decide),T.a0X,T.xM.kp,T.a0W⟩ (nZ (gcT T.qJ) gln)))))
theorem a2B (T:Txt K mg A) (hB:Bse base mg A):rM false P w K mg base 2 bI (cD K A):=by
  have h:=aeY (P:=P) (w:=w) (mg:=mg) (base:=base) (k:=1) (c:=bI) (ps:=["piece"]) (S:=wJ K A) (cb:=wI) (show ScX ["parts", "piece", "numbers"] ["piece"] "parts" bI.scope from ⟨rfl,rfl,rfl,by decide +kernel,rfl,by decide +kernel,ac0 (by decide +kernel),rfl⟩) (by decide +kernel) (fun _ _ _ _ _ us hl=>match us,hl with | [_],_=>rfl) rfl (by kernel_rfl) (by kernel_rfl) (nZ ⟨_,_,_,(a2A T hB).mono (by decide),T.jV,T.gO.kp,T.jU⟩ (nZ ⟨T.a5J,a6L⟩ gln))
  have e:(fun EX=>mB (wJ K A).gl K (fun _=>EX) wI)=fun EX=>jR K A (fun _=>EX):=by kernel_rfl
  rw [e] at h
  exact h
theorem a1D (T:Txt K mg A) (hB:Bse base mg A):cR false P w K mg base (kJ P w) 3 A.xJ A.kZ ["text"] (cT K (dF K A)):=by
  have h:=ajA (qt:=false) (P:=P) (w:=w) (mg:=mg) (base:=base) (k:=2) (S:=a3N K A) (cb:=a3M) (pre:=(bN cX).take 1) (c:=bI) (pos:=a73 (inBody cX 1)) (pg:=aoM (inBody cX 2)) (pr:=atN (inBody cX 2)) (ig:=2) (ix:=1) T.iR (show bF ["text", "parts", "tuple_of"] ["text"] _ from by walk_at "sc") (by kernel_rfl) (by kernel_rfl) (by kernel_rfl) (fun _=>rfl) (by kernel_rfl) T.oM hB.2 hB.1 (by kernel_rfl) (by kernel_rfl) (by kernel_rfl) (by kernel_rfl) (by kernel_rfl) (by decide) (by decide +kernel) (by decide +kernel) rfl (by kernel_rfl) (by kernel_rfl) (nZ ⟨_,_,_,(a7P T hB).mono (by decide),T.qI,T.mQ.kp,T.qH⟩ (nZ (gcT T.qJ) (nZ ⟨_,_,_,(aaV T hB).mono (by decide),T.a0X,T.xM.kp,T.a0W⟩ gln)))
  have e:(fun EX=>mB (a3N K A).gl K (fun _=>EX) a3M)=fun EX=>lA K A (fun _=>EX):=by kernel_rfl
  rw [e] at h
  exact h
theorem jH (T:Txt K mg A) (hB:Bse base mg A):cR false P w K mg base (kJ P w) 1 A.lZ A.dU ["_law_script", "_law_k"] (cT K (bD K A)) :=
  dc (S:=a0P K A) (c:=a0O) T.cF (show bF ["_law_script", "_law_k", "_law_mixed"] ["_law_script", "_law_k"] _ from by walk_at "sc") rfl (by kernel_rfl) (by kernel_rfl) (by kernel_rfl) (nZ ⟨T.aaR,a87⟩ gln)
theorem a2C (T:Txt K mg A) (hB:Bse base mg A):cR false P w K mg base (kJ P w) 1 A.pZ A.fY ["_law_found"] (cT K (iZ K A)) :=
  dc (S:=a5F K A) (c:=a5E) T.gP (show bF ["_law_found"] ["_law_found"] _ from by walk_at "sc") rfl (by kernel_rfl) (by kernel_rfl) (by kernel_rfl) (nZ ⟨T.alF,anN⟩ (nZ ⟨T.eO,eZ⟩ (nZ ⟨T.afQ,ai5⟩ gln)))
theorem a2D (T:Txt K mg A) (hB:Bse base mg A):cR false P w K mg base (kJ P w) 2 A.qC A.fZ ["_law_script"] (cT K (j4 K A)) :=
  dc (S:=a5H K A) (c:=a5G) T.gQ (show bF ["_law_script", "_law_left", "_law_cell", "_law_words_here", "_law_k"] ["_law_script"] _ from by walk_at "sc") rfl (by kernel_rfl) (by kernel_rfl) (by kernel_rfl) (nZ ⟨_,_,_,(jH T hB).mono (by decide),T.d7,T.cF.kp,T.cZ⟩ (nZ ⟨T.aaS,af3⟩ (nZ ⟨T.aaR,a87⟩ gln)))
theorem yW (T:Txt K mg A) (hB:Bse base mg A):rT false P w K mg base (kJ P w) 1 A.m7 A.dW ["_law_piece", "_law_words_here"] (cT K (fB K A)) :=
  dcP (S:=a0R K A) (c:=a0Q) T.eE (show bF ["_law_piece", "_law_words_here", "_law_found", "_law_word", "_law_name", "_law_told", "_law_number"] ["_law_piece", "_law_words_here"] _ from by walk_at "sc") rfl (by kernel_rfl) (by kernel_rfl) (by kernel_rfl) gln
theorem yX (T:Txt K mg A) (hB:Bse base mg A):cR false P w K mg base (kJ P w) 1 A.m8 A.dX ["_law_words_here", "_law_cell"] (cT K (fC K A)) :=
  dc (S:=a0T K A) (c:=a0S) T.eF (show bF ["_law_words_here", "_law_cell", "_law_at", "_law_more", "_law_ahead", "_law_behind", "_law_wrong", "_law_twin", "_law_sign", "_law_way"] ["_law_words_here", "_law_cell"] _ from by walk_at "sc") rfl (by kernel_rfl) (by kernel_rfl) (by kernel_rfl) (nZ ⟨T.aaR,a87⟩ gln)
theorem a5N (T:Txt K mg A) (hB:Bse base mg A):cR false P w K mg base (kJ P w) 1 A.sJ A.j6 ["_law_text_here"] (cT K (gM K A)) :=
  dc (S:=a7A K A) (c:=a79) T.jC (show bF ["_law_text_here", "_law_known", "_law_word", "_law_name"] ["_law_text_here"] _ from by walk_at "sc") rfl (by kernel_rfl) (by kernel_rfl) (by kernel_rfl) (nZ ⟨T.afS,adU⟩ (nZ ⟨T.eO,eZ⟩ gln))
theorem a5O (T:Txt K mg A) (hB:Bse base mg A):cR false P w K mg base (kJ P w) 3 A.sO A.j7 ["_law_script"] (cT K (jT K A)) :=
  dc (S:=a7C K A) (c:=a7B) T.jD (show bF ["_law_script", "_law_words_here", "_law_cell", "_law_text_here"] ["_law_script"] _ from by walk_at "sc") rfl (by kernel_rfl) (by kernel_rfl) (by kernel_rfl) (nZ ⟨_,_,_,(a2D T hB).mono (by decide),T.jZ,T.gQ.kp,T.jY⟩ (nZ ⟨_,_,_,(jH T hB).mono (by decide),T.d7,T.cF.kp,T.cZ⟩ (nZ ⟨_,_,_,(yX T hB).mono (by decide),T.gY,T.eF.kp,T.gW⟩ gln)))
theorem yZ (T:Txt K mg A) (hB:Bse base mg A):cR false P w K mg base (kJ P w) 4 A.m9 A.dY ["_law_text_here"] (cT K (fD K A)) :=
  dc (S:=a0V K A) (c:=a0U) T.eG (show bF ["_law_text_here", "error"] ["_law_text_here"] _ from by walk_at "sc") rfl (by kernel_rfl) (by kernel_rfl) (by kernel_rfl) (nZ ⟨T.wK,T.eN,T.dJ,T.dM,T.dN⟩ (nZ ⟨_,_,_,(a1D T hB).mono (by decide),T.pG,T.iR.kp,T.pF⟩ (nZ ⟨T.a0Y,T.iT,T.fL,T.fM,T.fO⟩ (nZ ⟨T.eO,eZ⟩ (nZ ⟨T.a7I,T.pH,T.lB,T.lC,T.lD⟩ (nZ ⟨T.aaQ,T.tO,T.pJ,T.pK,T.pL⟩ (nZ ⟨T.a7J,T.pI,T.lE,T.lF,T.lG⟩ (nZ ⟨T.a0Z,T.mR,T.fP,T.iU,T.fQ⟩ (nZ ⟨T.wL,a1W⟩ gln)))))))))
theorem apL (T:Txt K mg A) (hB:Bse base mg A):cR false P w K mg base (kJ P w) 5 A.yM A.afO ["_law_script"] (cT K (a8S K A)) :=
  dc (S:=au9 K A) (c:=a7H) T.alE (show bF ["_law_script", "_law_text_here", "_law_cell", "_law_other", "_law_spot", "_law_due", "_law_piece", "_law_rule", "_law_found", "_law_beside"] ["_law_script"] _ from by walk_at "sc") rfl (by kernel_rfl) (by kernel_rfl) (by kernel_rfl) (nZ ⟨_,_,_,(a5O T hB).mono (by decide),T.nQ,T.jD.kp,T.nP⟩ (nZ ⟨_,_,_,(jH T hB).mono (by decide),T.d7,T.cF.kp,T.cZ⟩ (nZ ⟨_,_,_,(a5N T hB).mono (by decide),T.nO,T.jC.kp,T.nM⟩ (nZ ⟨_,_,_,(yZ T hB).mono (by decide),T.iB,T.eG.kp,T.gZ⟩ (nZ ⟨_,_,_,(a1D T hB).mono (by decide),T.pG,T.iR.kp,T.pF⟩ (nZ ⟨_,_,_,(yW T hB).mono (by decide),T.gU,T.eE.kp,T.gR⟩ (nZ (rM.mono (a2B T hB) (by decide)) (nZ ⟨T.a5J,a6L⟩ (nZ ⟨T.eO,eZ⟩ (nZ ⟨_,_,_,(a2C T hB).mono (by decide),T.jX,T.gP.kp,T.jW⟩ (nZ ⟨T.afR,ai6⟩ gln)))))))))))
end
def aaW (K:Fg) (T:Addr):Sp:=fun vs H Q _=>∃ (a:Addr) (ns:List Int),vs=[.ref a]∧tX K H a (ns.map V.int)∧ns.length≤63∧K.lookup T=none∧H T=some (.xU #[])∧∀ H',Q (.bl true) H'
theorem ak7 {K:Fg} {mg:Str→Option Value} {A:bO} (T:Txt K mg A):∀ vs H Q E,aaW K A.cY vs H Q E→cT K (a8S K A) vs H Q E:=by
  rintro vs H Q E ⟨a,ns,rfl,hS,hl,hK,hT,k⟩
  have ne:A.cY≠a:=fun z=>by
    rw [← z] at hS
    rcases hS with (e | ⟨o,e⟩) | ⟨o,_,_,e,_⟩
    · rw [hT] at e;cases e
    · rw [hT] at e;cases e
    · rw [hK] at e;cases e
  refine ⟨[.ref a],fun b=>if b=a then some (.rol (ns.map D.int)) else if b=A.cY then some (GO.tab bI.qual (a73 (inBody cX 1))) else none,fun d _=>d = .bl true,fun _ _=>False,.cons (.ref a) .nil,fun b o e=>?_,main T a ns hl _ (if_pos rfl) ((if_neg ne).trans (if_pos rfl)),fun v H' d G' r g e=>?_,fun C H' G' g z=>z.elim⟩
  · have e2:(if b=a then some (GO.rol (ns.map D.int)) else if b=A.cY then some (GO.tab bI.qual (a73 (inBody cX 1))) else none)=some o:=e
    by_cases hb:b=a
    · subst hb
      rw [if_pos rfl] at e2
      cases e2
      exact ⟨_,hS,bM.ints ns⟩
    · rw [if_neg hb] at e2
      by_cases hb2:b=A.cY
      · subst hb2
        rw [if_pos rfl] at e2
        cases e2
        exact ⟨#[],hT,.inl rfl⟩
      · rw [if_neg hb2] at e2
        cases e2
  · subst e
    cases r
    exact k H'
def Cb (K:Fg) (x q:Str) (st:Stmt) (f:Addr):Prop:=∃ oc kV dc pm cd ct od an sl,K.lookup f=some ⟨oc,od,.func (PySem.W.fnOf x q (jP st) (bN st) (aH st) .none kV dc pm an cd ct),sl⟩∧PySem.W.codeIn K cd q=true∧PySem.W.keepIn K (.ref f)=true
theorem Cb.get {K:Fg} {x q:Str} {st:Stmt} {f:Addr} (b:Cb K x q st f) (ps:List Str) (h:∀ kV dc pm an cd ct,∀ us:List Value,us.length=ps.length→bindArgs (PySem.W.fnOf x q (jP st) (bN st) (aH st) .none kV dc pm an cd ct) ⟨us,[]⟩=pure (ps.zip us)):∃ d,vJ K x q st f d∧Binds K d ps []∧PySem.W.keepIn K (.ref f)=true:=by
  obtain ⟨oc,kV,dc,pm,cd,ct,od,an,sl,l,c,k⟩:=b
  exact ⟨_,ad8 (st:=st) l c k,aaC (h _ _ _ _ _ _),k⟩
def Fb (K:Fg) (x:Str) (st:Stmt) (f:Addr):Prop:=PySem.W.nsIn K mainGlobals x=some (some (.ref f))∧Cb K x x st f
theorem Fb.get {K:Fg} {q:Str} {st:Stmt} {f:Addr} {h:Heap} {mg:Str→Option Value} (b:Fb K q st f) (XK:K.In h) (GG:h.Ns mainGlobals mg) (ps:List Str) (h:∀ kV dc pm an cd ct,∀ us:List Value,us.length=ps.length→bindArgs (PySem.W.fnOf q q (jP st) (bN st) (aH st) .none kV dc pm an cd ct) ⟨us,[]⟩=pure (ps.zip us)):∃ d,vJ K q q st f d∧Binds K d ps []∧mg q=some (.ref f):=by
  obtain ⟨d,F,B,_⟩:=b.2.get ps h
  exact ⟨d,F,B,PySem.W.mg_of XK GG b.1⟩
def Mb (K:Fg) (c:Addr) (x q:Str) (st:Stmt) (f:Addr):Prop:=PySem.W.findIn K (.ref c) x=some (some (.ref f))∧PySem.W.isFn K (.ref f)=true∧Cb K x q st f
theorem Mb.get {K:Fg} {c:Addr} {x q:Str} {st:Stmt} {f:Addr} (b:Mb K c x q st f) (ps:List Str) (h:∀ kV dc pm an cd ct,∀ us:List Value,us.length=ps.length→bindArgs (PySem.W.fnOf x q (jP st) (bN st) (aH st) .none kV dc pm an cd ct) ⟨us,[]⟩=pure (ps.zip us)):∃ d,vJ K x q st f d∧Binds K d ps []∧PySem.W.findIn K (.ref c) x=some (some (.ref f))∧PySem.W.isFn K (.ref f)=true∧PySem.W.keepIn K (.ref f)=true:=by
  obtain ⟨d,F,B,k⟩:=b.2.2.get ps h
  exact ⟨d,F,B,b.1,b.2.1,k⟩
theorem all_mk {l:PySem.W.OpenLaw} {w:World} {K:Fg} {h:Heap} {mg:Str→Option Value} {fa:Addr} (XK:K.In h) (GG:h.Ns mainGlobals mg) (hfa:mg "law" = some (.ref fa))
    (uY:(tabIn K "rule_of").isSome=true)
    (a1E:K.lookup (qZ K "rule_of").2=none)
    (qL:Fb K "numbers_of" wA a5P)
    (a91:Fb K "bare" afN apM)
    (uZ:Fb K "words_of" a0M a92)
    (tQ:Fb K "rule_of" cX acG)
    (mV:Fb K "_law_cell_at" sE a1F)
    (qM:Fb K "_law_whole" wB a5Q)
    (qN:Fb K "_law_words" wC a5R)
    (mW:Fb K "_law_numbers" sG a1G)
    (mX:Fb K "_law_spoiled" sH a1H)
    (tD:Fb K "_law_good" yK a7Q)
    (tE:Fb K "_law_text" yL a7R)
    (mY:Fb K "_law_refused" sI a1I)
    (yM:PySem.W.nsIn K mainGlobals "law" = some (some (.ref ag2)))
    (ag3:K.lookup ag2=some ⟨axX,axY,.func (PySem.W.fnOf "law" "law" (jP a78) (bN a78) (aH a78) .none axZ ay0 ay1 ay2 apO ay3),ay4⟩)
    (a7H:PySem.W.codeIn K apO "law" = true)
    (ag4:PySem.W.keepIn K (.ref ag2)=true)
    (qO:PySem.W.nsIn K mainGlobals "DepotError" = some (some (.ref eU)))
    (eN:PySem.W.excIn K eU [.type "ValueError",.type "Exception",.type "BaseException",.type "object"] "ValueError.__new__" = true)
    (dJ:(PySem.W.clsIn K eU).isSome=true)
    (dM:PySem.W.typeIn K (.ref eU)=some (.type "type"))
    (dN:PySem.W.subIn K (.ref eU) (.type "BaseException")=some true)
    (a1J:PySem.W.nsIn K mainGlobals "NoName" = some (some (.ref pN)))
    (pH:PySem.W.excIn K pN [.type "ValueError",.type "Exception",.type "BaseException",.type "object"] "ValueError.__new__" = true)
    (lB:(PySem.W.clsIn K pN).isSome=true)
    (lC:PySem.W.typeIn K (.ref pN)=some (.type "type"))
    (lD:PySem.W.subIn K (.ref pN) (.type "BaseException")=some true)
    (a1K:PySem.W.nsIn K mainGlobals "NoWare" = some (some (.ref pO)))
    (pI:PySem.W.excIn K pO [.type "ValueError",.type "Exception",.type "BaseException",.type "object"] "ValueError.__new__" = true)
    (lE:(PySem.W.clsIn K pO).isSome=true)
    (lF:PySem.W.typeIn K (.ref pO)=some (.type "type"))
    (lG:PySem.W.subIn K (.ref pO) (.type "BaseException")=some true)
    (v7:PySem.W.nsIn K mainGlobals "NoAmount" = some (some (.ref iV)))
    (iT:PySem.W.excIn K iV [.type "ValueError",.type "Exception",.type "BaseException",.type "object"] "ValueError.__new__" = true)
    (fL:(PySem.W.clsIn K iV).isSome=true)
    (fM:PySem.W.typeIn K (.ref iV)=some (.type "type"))
    (fO:PySem.W.subIn K (.ref iV) (.type "BaseException")=some true)
    (a1L:PySem.W.nsIn K mainGlobals "NoRule" = some (some (.ref bV)))
    (mR:PySem.W.excIn K bV [.type "ValueError",.type "Exception",.type "BaseException",.type "object"] "ValueError.__new__" = true)
    (fP:(PySem.W.clsIn K bV).isSome=true)
    (iU:PySem.W.typeIn K (.ref bV)=some (.type "type"))
    (fQ:PySem.W.subIn K (.ref bV) (.type "BaseException")=some true)
    (xP:PySem.W.findIn K (.ref bV) "__getattribute__" = some (some (.builtin "BaseException.__getattribute__")))
    (xQ:PySem.W.findIn K (.ref bV) "__getattr__" = some none)
    (xR:PySem.W.findIn K (.ref bV) "__class__" = some (some (.builtin "object.__class__")))
    (xT:PySem.W.mroIn K bV (.type "object")=some true)
    (lH:PySem.W.kitOne K (.ref bV) (.type "ValueError")=some true)
    (a5S:PySem.W.nsIn K mainGlobals "NoRow" = some (some (.ref tR)))
    (tO:PySem.W.excIn K tR [.type "ValueError",.type "Exception",.type "BaseException",.type "object"] "ValueError.__new__" = true)
    (pJ:(PySem.W.clsIn K tR).isSome=true)
    (pK:PySem.W.typeIn K (.ref tR)=some (.type "type"))
    (pL:PySem.W.subIn K (.ref tR) (.type "BaseException")=some true)
    (bL:PySem.W.subIn K (.ref bV) (.ref eU)=some true)
    (bW:PySem.W.kitOne K (.ref bV) (.ref iV)=some false)
    (cL:PySem.W.kitOne K (.ref bV) (.ref pN)=some false)
    (d8:PySem.W.kitOne K (.ref bV) (.ref tR)=some false)
    (cM:PySem.W.kitOne K (.ref bV) (.ref bV)=some true)
    (cN:PySem.W.kitOne K (.ref bV) (.ref pO)=some false)
    (qJ:PySem.W.nsIn K mainGlobals "WORDS" = some (some (.ref aaX)))
    (a1M:K.lookup aaX=some ⟨.type "tuple",none,.seq #[(.str "due" ag5),(.str "came" ag6),(.str "amount" ag7),(.str "aisle" ag8),(.str "place" ag9),(.str "lot" agA)] auG,auH⟩)
    (qP:PySem.W.nsIn K mainGlobals "ValueError" = some none)
    (a93:PySem.W.nsIn K mainGlobals "bool" = some none)
    (agB:PySem.W.nsIn K mainGlobals "int" = some none)
    (qQ:PySem.W.nsIn K mainGlobals "isinstance" = some none)
    (agC:PySem.W.nsIn K mainGlobals "len" = some none)
    (a94:PySem.W.nsIn K mainGlobals "list" = some none)
    (a5T:PySem.W.nsIn K mainGlobals "range" = some none)
    (agD:PySem.W.nsIn K mainGlobals "str" = some none)
    (a5U:PySem.W.nsIn K mainGlobals "tuple" = some none) :
    ∃ fd:FuncData,(∀ (s:Shared) (v:Value),BindsTo s fd ⟨[v],[]⟩ [("_law_script",v)])∧∀ base:Heap,K.In base→base.Ns mainGlobals mg→base.BuiltinsAt mg (qZ K "rule_of").2→CodeHd base (qZ K "rule_of").1 (qZ K "rule_of").2→cR false l.prog w K mg base (kJ l.prog w) 5 fa fd ["_law_script"] (aaW K (qZ K "rule_of").2):=by
  have e:=hfa.symm.trans (PySem.W.mg_of XK GG yM)
  cases e
  obtain ⟨fX,gO,jU,jV⟩:=qL.get XK GG ["piece"] fun _ _ _ _ _ _ us hl=>match us,hl with | [_],_=>rfl
  obtain ⟨a0N,xM,a0W,a0X⟩:=a91.get XK GG ["word"] fun _ _ _ _ _ _ us hl=>match us,hl with | [_],_=>rfl
  obtain ⟨lY,mQ,qH,qI⟩:=uZ.get XK GG ["text"] fun _ _ _ _ _ _ us hl=>match us,hl with | [_],_=>rfl
  obtain ⟨kZ,iR,pF,pG⟩:=tQ.get XK GG ["text"] fun _ _ _ _ _ _ us hl=>match us,hl with | [_],_=>rfl
  obtain ⟨dU,cF,cZ,d7⟩:=mV.get XK GG ["_law_script", "_law_k"] fun _ _ _ _ _ _ us hl=>match us,hl with | [_,_],_=>rfl
  obtain ⟨fY,gP,jW,jX⟩:=qM.get XK GG ["_law_found"] fun _ _ _ _ _ _ us hl=>match us,hl with | [_],_=>rfl
  obtain ⟨fZ,gQ,jY,jZ⟩:=qN.get XK GG ["_law_script"] fun _ _ _ _ _ _ us hl=>match us,hl with | [_],_=>rfl
  obtain ⟨dW,eE,gR,gU⟩:=mW.get XK GG ["_law_piece", "_law_words_here"] fun _ _ _ _ _ _ us hl=>match us,hl with | [_,_],_=>rfl
  obtain ⟨dX,eF,gW,gY⟩:=mX.get XK GG ["_law_words_here", "_law_cell"] fun _ _ _ _ _ _ us hl=>match us,hl with | [_,_],_=>rfl
  obtain ⟨j6,jC,nM,nO⟩:=tD.get XK GG ["_law_text_here"] fun _ _ _ _ _ _ us hl=>match us,hl with | [_],_=>rfl
  obtain ⟨j7,jD,nP,nQ⟩:=tE.get XK GG ["_law_script"] fun _ _ _ _ _ _ us hl=>match us,hl with | [_],_=>rfl
  obtain ⟨dY,eG,gZ,iB⟩:=mY.get XK GG ["_law_text_here"] fun _ _ _ _ _ _ us hl=>match us,hl with | [_],_=>rfl
  have T:Txt K mg ⟨a5P,fX,
    apM,a0N,
    a92,lY,
    acG,kZ,
    a1F,dU,
    a5Q,fY,
    a5R,fZ,
    a1G,dW,
    a1H,dX,
    a7Q,j6,
    a7R,j7,
    a1I,dY,
    ag2,_,
    eU,
    pN,
    pO,
    iV,
    bV,
    tR,
    (qZ K "rule_of").2,
    (qZ K "rule_of").1⟩:={
    oM:=aeZ iR (aaA uY) tQ.1,
    gO:=gO,
    jU:=jU,
    jV:=jV,
    xM:=xM,
    a0W:=a0W,
    a0X:=a0X,
    mQ:=mQ,
    qH:=qH,
    qI:=qI,
    iR:=iR,
    pF:=pF,
    pG:=pG,
    cF:=cF,
    cZ:=cZ,
    d7:=d7,
    gP:=gP,
    jW:=jW,
    jX:=jX,
    gQ:=gQ,
    jY:=jY,
    jZ:=jZ,
    eE:=eE,
    gR:=gR,
    gU:=gU,
    eF:=eF,
    gW:=gW,
    gY:=gY,
    jC:=jC,
    nM:=nM,
    nO:=nO,
    jD:=jD,
    nP:=nP,
    nQ:=nQ,
    eG:=eG,
    gZ:=gZ,
    iB:=iB,
    alE:=ad8 (st:=a78) ag3 a7H ag4,
    auA:=aaC (ps:=["_law_script"]) (fun us hl=>match us,hl with | [_],_=>rfl),
    auB:=PySem.W.mg_of XK GG yM,
    wK:=PySem.W.mg_of XK GG qO,
    eN:=eN,
    dJ:=dJ,
    dM:=dM,
    dN:=dN,
    a7I:=PySem.W.mg_of XK GG a1J,
    pH:=pH,
    lB:=lB,
    lC:=lC,
    lD:=lD,
    a7J:=PySem.W.mg_of XK GG a1K,
    pI:=pI,
    lE:=lE,
    lF:=lF,
    lG:=lG,
    a0Y:=PySem.W.mg_of XK GG v7,
    iT:=iT,
    fL:=fL,
    fM:=fM,
    fO:=fO,
    a0Z:=PySem.W.mg_of XK GG a1L,
    mR:=mR,
    fP:=fP,
    iU:=iU,
    fQ:=fQ,
    mU:=⟨xP,xQ,xR,
    fQ,xT,
    fP⟩,
    lH:=lH,
    aaQ:=PySem.W.mg_of XK GG a5S,
    tO:=tO,
    pJ:=pJ,
    pK:=pK,
    pL:=pL,
    bL:=bL,
    bW:=bW,
    cL:=cL,
    d8:=d8,
    cM:=cM,
    cN:=cN,
    qJ:=⟨aaX,PySem.W.mg_of XK GG qJ,aoN (xs:=[.str "due",.str "came",.str "amount",.str "aisle",.str "place",.str "lot"]) a1M (show 6≤sizeLine by decide) (.cons ⟨ag5,rfl⟩ (.cons ⟨ag6,rfl⟩ (.cons ⟨ag7,rfl⟩ (.cons ⟨ag8,rfl⟩ (.cons ⟨ag9,rfl⟩ (.cons ⟨agA,rfl⟩ .nil)))))) fun _=>(.cons (.str _) (.cons (.str _) (.cons (.str _) (.cons (.str _) (.cons (.str _) (.cons (.str _) .nil))))))⟩,
    wL:=PySem.W.mg_none_of XK GG qP,
    afQ:=PySem.W.mg_none_of XK GG a93,
    alF:=PySem.W.mg_none_of XK GG agB,
    eO:=PySem.W.mg_none_of XK GG qQ,
    aaR:=PySem.W.mg_none_of XK GG agC,
    afR:=PySem.W.mg_none_of XK GG a94,
    aaS:=PySem.W.mg_none_of XK GG a5T,
    afS:=PySem.W.mg_none_of XK GG agD,
    a5J:=PySem.W.mg_none_of XK GG a5U }
  exact ⟨_,fun s v => .of_eq rfl,fun base _ _ h1 h2=>(apL T ⟨h1,h2⟩).imp (ak7 T)⟩
theorem walk {l:PySem.W.OpenLaw} {q:Program} {loose:List Str} {XP:(Str→Option Value)→Heap→Prop} {YP:World→Heap→Prop} {d:DefRec} {K:Params→PySem.W.Frag} (hn:l.most=some 63) (hdf:d.params.defaults=[])
    (hY:∀ (w:World) (h:Heap),YP w h→(K w.params).In h) (hdm:((recsOf q).find? (fun e=>e.name == ("rule_of" : Str))).isSome=true) (hT:∀ w:World,(tabIn (K w.params) "rule_of").isSome=true) (hKT:∀ w:World,(K w.params).lookup (qZ (K w.params) "rule_of").2=none)
    (F:∀ (w:World) (mg:Str→Option Value) (fa:Addr) (h:Heap),(K w.params).In h→h.Ns mainGlobals mg→mg d.name=some (.ref fa) →
      ∃ fd:FuncData,(∀ (s:Shared) (u:Value),BindsTo s fd ⟨[u],[]⟩ [("_law_script",u)])∧∀ base:Heap,(K w.params).In base→base.Ns mainGlobals mg→base.BuiltinsAt mg (qZ (K w.params) "rule_of").2→CodeHd base (qZ (K w.params) "rule_of").1 (qZ (K w.params) "rule_of").2→cR false l.prog w (K w.params) mg base (kJ l.prog w) 5 fa fd ["_law_script"] (aaW (K w.params) (qZ (K w.params) "rule_of").2)) :
    PySem.W.WalkO q loose XP YP l.row.toRowW d [] (fun f vs=>PySem.call f vs):=by
  obtain ⟨dm,hdm⟩:=Option.isSome_iff_exists.mp hdm
  exact L2.af2 (n:=63) (k:=5) (x := "_law_script") (CX:=fun w=>kJ l.prog w) (T:=fun w=>(qZ (K w.params) "rule_of").2) (cC:=fun w=>(qZ (K w.params) "rule_of").1) (sp:=fun w=>aaW (K w.params) (qZ (K w.params) "rule_of").2) hn (by decide) hdf ⟨fun _=>rfl,by decide,by decide⟩ hY hdm (fun w=>aaA (hT w)) hKT F (fun w _ a ns hl hO hS=>⟨a,ns,rfl,hS,hl,hKT w,hO.1,fun _=>rfl⟩) fun _ _ _ _ _ ⟨_,_,_,_,_,_,_,_,_,_,_,_,z⟩=>z
end Law
open PySem PySem.W PyProof.Rows
theorem PySem.Challenge.cw_depot_k41_rules_read_holds : PySem.Challenge.rw_depot_k41_rules_read.Holds := by
  w_on;o_law;o_head (PySem.W.kHook Law.frK.heap_39 Law.frA Law.frE)
  case hl=>exact Law.frL
  case hw=>w_witness2
  k_fill
  refine Law.walk (l:=PySem.Challenge.rw_depot_k41_rules_read) rfl rfl (fun w h Y=>PySem.W.kIn_of Y) (by kernel_rfl) (fun w=>by kernel_rfl) (fun w=>by kernel_rfl) ?F
  case F =>
    intro w mg fa h KX G hmg
    refine' Law.all_mk KX G hmg ?uY ?a1E ?qL ?a91 ?uZ ?tQ ?mV ?qM ?qN ?mW ?mX ?tD ?tE ?mY ?yM ?ag3 ?a7H ?ag4 ?qO ?eN ?dJ ?dM ?dN ?a1J ?pH ?lB ?lC ?lD ?a1K ?pI ?lE ?lF ?lG ?v7 ?iT ?fL ?fM ?fO ?a1L ?mR ?fP ?iU ?fQ ?xP ?xQ ?xR ?xT ?lH ?a5S ?tO ?pJ ?pK ?pL ?bL ?bW ?cL ?d8 ?cM ?cN ?qJ ?a1M ?qP ?a93 ?agB ?qQ ?agC ?a94 ?a5T ?agD ?a5U
    case uY | a1E=>kernel_rfl
    case qL | a91 | uZ | tQ | mV | qM | qN | mW | mX | tD | tE | mY=>exact ⟨by k_is,_,_,_,_,_,_,_,_,_,by k_is,by k_is,by k_is⟩
    case yM | ag3 | a7H | ag4 | qO=>k_is
    case eN=>k_exc
    case dJ=>kernel_rfl
    case dM | dN | a1J=>k_is
    case pH=>k_exc
    case lB=>kernel_rfl
    case lC | lD | a1K=>k_is
    case pI=>k_exc
    case lE=>kernel_rfl
    case lF | lG | v7=>k_is
    case iT=>k_exc
    case fL=>kernel_rfl
    case fM | fO | a1L=>k_is
    case mR=>k_exc
    case fP=>kernel_rfl
    case iU | fQ | xP | xQ | xR | xT=>k_is
    case lH=>kit_is
    case a5S=>k_is
    case tO=>k_exc
    case pJ=>kernel_rfl
    case pK | pL | bL=>k_is
    case bW | cL | d8 | cM | cN=>kit_is
    case qJ | a1M | qP | a93 | agB | qQ | agC | a94 | a5T | agD | a5U=>k_is
