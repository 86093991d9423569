import PyProof.Rows.All
import Wide.All
import OpenK.KLine
import OpenK.KOwn
import Wide.FinOn
import Lean
import PyProof.EqAt
import PyProof.EqKinds
import PyProof.TupleCall
import KE.KMinKey
import KE.KSortTup
import KE.KRevSl
import KE.KStateDown
import PyProof.Rows.Range3
import KE.KDictOf
import PyProof.AttrMissSeq
import KE.KRevIter
import KE.KItemsList
import KE.KEqDict
import KE.KDictSum
import KE.RegKIsAll
import PySem.Challenge.RW_depot_k21_put_and_taken
set_option Elab.async false
set_option linter.all false
set_option maxRecDepth 100000
set_option maxHeartbeats 4000000
namespace Law
open PySem PySem.W PyProof.Rows
def frT (n:Nat):Stmt:=PySem.Challenge.pw_depot_k21_put_and_taken.main.body.getD n (.Pass ⟨0,0,0,0⟩)
def frQ:Program:={ PySem.Challenge.pw_depot_k21_put_and_taken with main:={ PySem.Challenge.pw_depot_k21_put_and_taken.main with body:=[frT 0,frT 2,frT 3,frT 4,frT 5,frT 6,frT 7,frT 8,frT 10,frT 11,frT 12,frT 13,frT 14,frT 15,frT 17,frT 18,frT 19,frT 20,frT 22,frT 23,frT 24,frT 26,frT 27,frT 28,frT 29,frT 31,frT 32,frT 33,frT 34,frT 35,frT 36,frT 37,frT 38,frT 39] } }
theorem frB {p q:Program} {loose:List Str} {Xt:Shared→Bool} {α:Type} {Yf:Shared→α} {Ya:World→α} {N:Nat} {g0:Bool}
    (e:opening p=plainProg p.main.scope.names) (hN:Nat.ble 600 N=true) (f:∀ s,fenceModules? p s=some s)
    (h:∀ (w:World) (os:OsState),(topFrom treeTable p w N ⟨boot_heap w.params,#[],boot_drawn,boot_toks,os⟩).map (fun s=>(openSeen q loose (importedModules p.main.body) Xt g0 s,Yf s))=some (openGood q loose,Ya w)) :
    LeftO p q loose Xt Yf Ya N g0:=fun w=>by
  obtain ⟨⟨h1,gs,d,k,os⟩,e1,e'⟩:=Option.map_eq_some_iff.mp (boot_open e hN f w)
  obtain ⟨rfl,rfl,rfl,rfl⟩:h1=boot_heap w.params∧gs=#[]∧d=boot_drawn∧k=boot_toks:=by simpa using e'
  unfold openEnds
  rw [e1]
  exact h w os
abbrev frX:Shared→Bool:=fun s=>xlAt frQ [] s&&recOk (RowW.records (OpenRow.toRowW (OpenLaw.row PySem.Challenge.rw_depot_k21_put_and_taken))) s
end Law
local macro_rules
  | `(tactic| o_head $H)=>`(tactic| refine PySem.W.holds_open (q:=Law.frQ) (loose:=[]) (Xt:=Law.frX) (XP:=PySem.W.XL Law.frQ []) (Yf:=PySem.W.Hook.obs $H) (Ya:=PySem.W.Hook.val $H)
      (YP:=PySem.W.Hook.says $H) (N:=5658) ?hl (PySem.W.Hook.of $H) (PySem.W.Hook.keeps $H) (fun s e=>PySem.W.xl_of s (Bool.and_eq_true_iff.mp e).1) PySem.W.XL.keeps (by rfl) (by rfl) (by rfl)
      (fun s e=>PySem.W.recFacts_of (Bool.and_eq_true_iff.mp e).2) (by rfl) (by first | assumption | decide +kernel) (by decide +kernel) ⟨rfl,rfl,rfl,rfl,rfl,by decide +kernel⟩ ?hw ?hc)
open PySem PySem.W in
theorem Law.frK (h0:∀ {α:Type} (Yf:Shared→α) (Ya:World→α),LeftO (OpenLaw.row PySem.Challenge.rw_depot_k21_put_and_taken).prog Law.frQ [] Law.frX Yf Ya 5658)
    (h1:∀ YP d,WalkO Law.frQ [] (XL Law.frQ []) YP (OpenRow.toRowW (OpenLaw.row PySem.Challenge.rw_depot_k21_put_and_taken)) d [] (fun f vs=>PySem.call f vs)):OpenLaw.Holds PySem.Challenge.rw_depot_k21_put_and_taken:=by
  w_on;o_law;k_head
  case hl=>exact h0 _ _
  case hw=>w_witness2
  exact h1 _ _
abbrev Law.frA:List Nat:=[2,3,15,17,18,20,21,22,29,30,31,32,35,42,43,44,47,54,55,56,59,66,67,68,71,78,79,80,83,90,91,92,95,102,103,104,107,109,110,112,113,114,116,117,119,120,121,123,124,126,127,128,130,131,133,134,135,137,138,140,141,142,144,145,147,148,149,151,152,154,155,156,158,159,161,162,163,165,166,168,169,170,172,173,175,176,177,179,180,182,183,191,192,194,195,197,198,199,201,202,204,205,206,208,209,211,212,213,215,216,218,219,220,222,223,225,226,227,229,230,232,233,234,236,237,239,240,241,244,245,246,248,249,251,252,253,255,256,258,259,260,262,263,265,266,267,268,269,270,271,274,276,277,279,280,281,283,284,286,287,288,290,291,293,294,295,297,298,300,301,302,305,306,307,309,310,312,313,314,316,317,319,320,321,323,324,326,327,328,330,331,333,334]
theorem Law.frE:∀ P,Law.frA=(Law.frK.heap_39 P).map (·.1):=fun _=>by kernel_rfl
open PySem PySem.W in
theorem Law.frL:LeftO (OpenLaw.row PySem.Challenge.rw_depot_k21_put_and_taken).prog Law.frQ [] Law.frX (Hook.obs (kHook Law.frK.heap_39 Law.frA Law.frE)) (Hook.val (kHook Law.frK.heap_39 Law.frA Law.frE)) 5658 :=
  Law.frB (by kernel_rfl) (by kernel_rfl) (fun s=>by kernel_rfl) (fun w os=>by kernel_rfl)
namespace L2
open PySem PySem.Spec PyProof.Rows
structure Tr (B:Heap) (x:Addr) (C fl:Value) (h:Heap):Prop where
  ex:∃ (o:Obj) (vs:Array Value) (T:Addr) (oT:Obj) (ts:Array Value),h.get? x=some o∧o.cls=C∧o.data = .fields vs∧vs[1]?=some (.ref T)∧vs[2]?=some .none∧B.get? T=none∧T≠x∧h.get? T=some oT∧oT.data = .fields ts∧ts[3]?=some fl
structure anR (B:Heap) (l:List Env) (x:Addr) (C fl:Value) (h:Heap):Prop where
  stays:B.StaysIn h
  new:B.get? x=none
  aLA:h.FunFrames B l
  tr:Tr B x C fl h
abbrev Fly (B:Heap) (l:List Env) (x:Addr) (C:Value) (h:Heap):Prop:=anR B l x C .none h
section
variable {M:Model} {A:Around} {E:Value→Shared→Prop} {s:Shared} {B:Heap} {l:List Env} {env:Env} {outer:List Env} {L x:Addr} {C fl:Value}
theorem anR.fld {h:Heap} (f:anR B l x C fl h):∃ o vs,h.get? x=some o∧o.cls=C∧o.data = .fields vs∧vs[2]?=some .none:=by
  obtain ⟨o,vs,_,_,_,h1,h2,h3,_,h5,_⟩:=f.tr.ex
  exact ⟨o,vs,h1,h2,h3,h5⟩
theorem yS {h:Heap} {a:Addr} {o:Obj} {vs:Array Value} {i:Nat} {v:Value} (e:h.get? a=some o) (d:o.data = .fields vs) :
    (h.update a (Obj.mapFields (·.setIfInBounds i v))).get? a=some (Obj.mapFields (·.setIfInBounds i v) o)∧(Obj.mapFields (·.setIfInBounds i v) o).data = .fields (vs.setIfInBounds i v)∧(Obj.mapFields (·.setIfInBounds i v) o).cls=o.cls ∧
    (∀ b,b≠a→(h.update a (Obj.mapFields (·.setIfInBounds i v))).get? b=h.get? b):=by
  have d':=Obj.data_mapFields d (·.setIfInBounds i v)
  exact ⟨Heap.get?_update_self _ e (Obj.isFreed_of_fields d'),d',Obj.cls_mapFields _ _,fun b hb=>Heap.get?_update_other _ _ (Ne.symm hb)⟩
theorem aa7 {h:Heap} {a b:Addr} {o u:Obj} {vs:Array Value} (e:h.get? a=some o) (d:o.data = .fields vs) (e2:h.get? b=some u) (n:∀ ws,u.data ≠ .fields ws):b≠a:=fun q=>by
  subst q
  rw [e] at e2
  cases e2
  exact n vs d
theorem ai6 {Q:Unit→Shared→Prop} (f:anR B l x C fl s.heap) (h:∀ h',Fly B l x C h'→s.heap.UpToSlots h'→Q () { s with heap:=h' }):wpAny M A (setFlight (.ref x) none) Q E s:=by
  obtain ⟨st,nw,fu,⟨o,vs,T,oT,ts,e1,e2,e3,e4,e5,e6,e7,e8,e9,e10⟩⟩:=f
  unfold setFlight
  refine wpAny_bind (wpAny_field e1 e3 e4 ?_)
  rw [if_pos (by simp)]
  have l3:3 < ts.size:=(Array.getElem?_eq_some_iff.mp e10).1
  obtain ⟨u1,u2,u3,u4⟩:=yS (i:=3) (v:=(none:Option Addr).elim Value.none fun f=>rawInt f) e8 e9
  refine wpAny_setField e8 e9 l3 (h _ ⟨fun b u q=>?_,nw,fu.of_keeps fun b u q n=>⟨u,(u4 b (aa7 e8 e9 q n)).trans q,rfl⟩,⟨o,vs,T,_,_,(u4 x (Ne.symm e7)).trans e1,e2,e3,e4,e5,e6,e7,u1,u2,?_⟩⟩ fun b u q n=>⟨u.slots,(u4 b (aa7 e8 e9 q n)).trans q⟩)
  · exact (u4 b fun z=>by subst z;rw [e6] at q;cases q).trans (st b u q)
  · simp [l3]
theorem aqN {Q:Unit→Shared→Prop} {head:Value} {hadNext:Bool} {o:Obj} {vs:Array Value} (hfr:A.frames=some (env :: outer)) (hf:env.frame=some L) (st:B.StaysIn s.heap) (nw:B.get? x=none) (fu:s.heap.FunFrames B (env :: outer)) (e1:s.heap.get? x=some o) (e2:o.cls=C) (e3:o.data = .fields vs) (e4:1 < vs.size) (e5:vs[2]?=some .none)
    (h:∀ h',anR B (env :: outer) x C (rawInt L) h'→s.heap.UpToSlots h'→Q () { s with heap:=h' }) :
    wpAny M A (do let a ← frameOf env;let pl ← entryPlaceOf L hadNext;let b ← EntryCells.newEntry head a .none (rawInt L) .none pl;setField (.ref x) 1 b) Q E s:=by
  have nf:x ∉ (env :: outer).filterMap (·.frame):=fun m=>by
    obtain ⟨_,u,hu,hn⟩:=fu.mem m
    rw [e1] at hu;cases hu
    exact hn vs e3
  refine wpAny_bind (wpAny_frameOf_fun hfr fu hf fun k so=>wpAny_bind (wpAny_entryPlaceOf fun pl hpl=>?_))
  unfold EntryCells.newEntry newFields
  refine wpAny_bind (wpAny_newObj_type ?_ (hpl.sizeOk5 _ _ _ _ _))
  have k1:k.get? x=some o:=(so.2.1 x nf).trans e1
  have tne:k.objs.size≠x:=fun z=>absurd (Heap.lt_size k1) (by rw [z];exact Nat.lt_irrefl _)
  have kB:∀ b u,B.get? b=some u→k.get? b=some u:=fun b u q=>(so.2.1 b fun m=>by rw [(fu.mem m).1] at q;cases q).trans (st b u q)
  generalize hT:({ cls := .type "traceback",dict:=none,data := .fields ([head,.ref L,.none,rawInt L,.none]++(if pl.isEmpty then List.replicate 6 Value.none else pl)).toArray }:Obj)=oT
  have p1:(k.push oT).get? x=some o:=Heap.get?_push_of_some _ k1
  obtain ⟨u1,u2,u3,u4⟩:=yS (i:=1) (v := .ref k.objs.size) p1 e3
  have keep:∀ b u,b≠x→k.get? b=some u→((k.push oT).update x (Obj.mapFields (·.setIfInBounds 1 (.ref k.objs.size)))).get? b=some u:=fun b u n q=>(u4 b n).trans (Heap.get?_push_of_some _ q)
  have pT:(k.push oT).get? k.objs.size=some oT:=by
    subst hT
    exact Heap.get?_push_size k rfl
  refine wpAny_setField p1 e3 e4 (h _ ⟨fun b u q=>keep b u (fun z=>by subst z;rw [nw] at q;cases q) (kB b u q),nw,fu.of_keeps fun b u q n=>?_,⟨_,_,k.objs.size,oT,_,u1,u3.trans e2,u2,?_,?_,?_,tne,(u4 _ tne).trans pT,by rw [← hT],?_⟩⟩ fun b u q n=>?_)
  · obtain ⟨sl,z⟩:=so.2.2 b u q
    exact ⟨_,keep b _ (aa7 e1 e3 q n) z,rfl⟩
  · simp [e4]
  · rw [Array.getElem?_setIfInBounds_ne (by decide)];exact e5
  · cases q:B.get? k.objs.size with
    | none=>rfl
    | some u=>exact absurd (Heap.lt_size (kB _ u q)) (Nat.lt_irrefl _)
  · first | (simp;done) | (rcases hpl with rfl | ⟨_,_,_,_,_,_,_,rfl⟩ <;> simp)
  · obtain ⟨sl,z⟩:=so.2.2 b u q
    exact ⟨sl,keep b _ (aa7 e1 e3 q n) z⟩
theorem awI {Q:Unit→Shared→Prop} (hfr:A.frames=some (env :: outer)) (hf:env.frame=some L) (f:Fly B (env :: outer) x C s.heap) (h:∀ h',anR B (env :: outer) x C (rawInt L) h'→s.heap.UpToSlots h'→Q () { s with heap:=h' }):wpAny M A (noteFrame (.ref x) env) Q E s:=by
  obtain ⟨st,nw,fu,⟨o,vs,T,oT,ts,e1,e2,e3,e4,e5,e6,e7,e8,e9,e10⟩⟩:=f
  unfold noteFrame
  simp only [hf]
  refine wpAny_bind (wpAny_field e1 e3 e4 ?_)
  rw [if_pos (by simp)]
  refine wpAny_bind (wpAny_field e8 e9 e10 ?_)
  rw [if_neg (by simp [rawInt])]
  have l3:3 < ts.size:=(Array.getElem?_eq_some_iff.mp e10).1
  obtain ⟨u1,u2,u3,u4⟩:=yS (i:=3) (v := .none) e8 e9
  refine wpAny_bind (wpAny_setField e8 e9 l3 ?_)
  refine aqN hfr hf (fun b u q=>(u4 b fun z=>by subst z;rw [e6] at q;cases q).trans (st b u q)) nw (fu.of_keeps fun b u q n=>⟨u,(u4 b (aa7 e8 e9 q n)).trans q,rfl⟩) ((u4 x (Ne.symm e7)).trans e1) e2 e3 (Array.getElem?_eq_some_iff.mp e4).1 e5 fun h' f' up=>h h' f' ?_
  exact fun b u q n=>up b u ((u4 b (aa7 e8 e9 q n)).trans q) n
theorem anR.tail {h:Heap} (f:anR B (env :: outer) x C fl h):anR B outer x C fl h:=by
  obtain ⟨st,nw,⟨_,_,fu⟩,tr⟩:=f
  exact ⟨st,nw,fu,tr⟩
theorem aAG {Q:Unit→Shared→Prop} (hfr:A.frames=some (env :: outer)) (hf:env.frame=some L) (f:Fly B (env :: outer) x C s.heap) (h:∀ h',Fly B outer x C h'→s.heap.UpToSlots h'→Q () { s with heap:=h' }):wpAny M A (leaving env (.ref x)) Q E s:=by
  unfold leaving
  refine wpAny_bind (awI hfr hf f fun h1 f1 up1=>ai6 f1 fun h2 f2 up2=>?_)
  exact h h2 f2.tail (up1.trans up2)
theorem auI {Q:Unit→Shared→Prop} {h0:Heap} {us:List Value} (hfr:A.frames=some (env :: outer)) (hf:env.frame=some L) (st:B.StaysIn h0) (fu:h0.FunFrames B (env :: outer)) (hm:Heap.MadeExcOf h0 s.heap x C us) (h:∀ h',Fly B outer x C h'→s.heap.UpToSlots h'→Q () { s with heap:=h' }):wpAny M A (leaving env (.ref x)) Q E s:=by
  obtain ⟨t,e1,_,_⟩:=hm.there
  unfold leaving noteFrame
  simp only [hf]
  refine wpAny_bind (wpAny_bind (wpAny_field (vs:=#[.ref t,.none,.none,.none,.bool false,.none]) (i:=1) e1 rfl rfl ?_))
  rw [if_neg (by simp)]
  have nw:B.get? x=none:=by
    cases q:B.get? x with
    | none=>rfl
    | some u=>have:=st x u q;rw [hm.new] at this;cases this
  refine aqN hfr hf (fun b u q=>hm.keeps b u (st b u q)) nw (fu.of_keeps fun b u q _=>⟨u,hm.keeps b u q,rfl⟩) e1 rfl rfl (by simp) rfl fun h1 f1 up1=>ai6 f1 fun h2 f2 up2=>?_
  exact h h2 f2.tail (up1.trans up2)
end
def alC (A:Around) (h:Heap):Prop:=A.handled=none∨∃ x o vs,A.handled=some (.ref x)∧h.get? x=some o∧o.data = .fields vs∧vs[2]?=some .none
theorem alD:entryFor table "proto.unchain" = some Builtin.«proto.unchain» := entryFor_of_fast (by kernel_rfl)
section
variable {prog:Program} {w:World} {A:Around} {E:Value→Shared→Prop} {s:Shared}
theorem ay7 {α:Type} {Q:α→Shared→Prop} {a:Addr} {oa:Obj} {ws:Array Value} (hq:alC A s.heap) (ea:s.heap.get? a=some oa) (da:oa.data = .fields ws) (la:2 < ws.size) (na:∀ x,A.handled=some (.ref x)→x≠a)
    (h:∀ h',(∀ b,b≠a→h'.get? b=s.heap.get? b)→(∃ o,h'.get? a=some o∧o.cls=oa.cls)→E (.ref a) { s with heap:=h' }):wpAny (model prog w) A (raiseNew (.ref a):Sem α) Q E s:=by
  unfold raiseNew
  refine wpAny_bind (wpAny_handled ?_)
  rcases hq with hn | ⟨x,o,vs,hx,ex,dx,vx⟩
  · rw [hn]
    exact wpAny_bind (wpAny_pure (wpAny_throw (h s.heap (fun _ _=>rfl) ⟨oa,ea,rfl⟩)))
  · rw [hx]
    have ne:=na x hx
    show wpAny (model prog w) _ (if ((Value.ref x) != (Value.ref a))=true then _ else _) _ _ _
    rw [if_pos (by simpa using ne)]
    refine wpAny_bind (wpAny_holding (wpAny_runValue (codeAny_builtin alD ?_)))
    show wpAny (model prog w) _ (field (.ref x) 2 >>= _) _ _ _
    refine wpAny_bind (wpAny_field ex dx vx ?_)
    show wpAny (model prog w) _ (if ((Value.none:Value) == Value.none)=true then _ else _) _ _ _
    rw [if_pos (by decide)]
    refine wpAny_bind (wpAny_pure (wpAny_pure ?_))
    obtain ⟨u1,u2,u3,u4⟩:=yS (i:=2) (v := .ref x) ea da
    show wpAny (model prog w) _ (setField (.ref a) 2 (.ref x) >>= _) _ _ _
    exact wpAny_bind (wpAny_setField ea da la (wpAny_throw (h _ u4 ⟨_,u1,u3⟩)))
theorem zP {α:Type} {Q:α→Shared→Prop} (hq:alC A s.heap) (h:∀ a h',(∀ b o,s.heap.get? b=some o→h'.get? b=some o)→(∃ o,h'.get? a=some o∧o.cls = .type "StopIteration")→E (.ref a) { s with heap:=h' }) :
    wpAny (model prog w) A (newExc (.type "StopIteration") [] >>= fun e=>(raiseNew e:Sem α)) Q E s:=by
  refine wpAny_bind ?_
  unfold newExc newTuple
  refine wpAny_bind (wpAny_newObj_type (wpAny_bind (wpAny_of_eq (a:=Value.none) (by simp only [firstArgMember];rfl) (wpAny_newObj_type ?_ (by size_fits)))) (by size_fits))
  generalize hh:s.heap.push { cls := .type "tuple",data := .seq ([]:List Value).toArray }=h1
  generalize ho:({ cls := .type "StopIteration",data := .fields (#[.ref s.heap.objs.size,.none,.none,.none,.bool false,.none]++ownMembersOf (.type "StopIteration") []) }:Obj)=o1
  have k1:∀ b o,s.heap.get? b=some o→(h1.push o1).get? b=some o:=fun b o e=>Heap.get?_push_of_some _ (hh ▸ Heap.get?_push_of_some _ e)
  have ea:(h1.push o1).get? h1.objs.size=some o1:=by
    subst ho
    exact Heap.get?_push_size h1 rfl
  have old:∀ b o,s.heap.get? b=some o→b≠h1.objs.size:=fun b o e z=>by
    have l1:b < h1.objs.size:=by
      rw [← hh,Heap.size_push]
      exact Nat.lt_succ_of_lt (Heap.lt_size e)
    exact absurd l1 (by rw [z];exact Nat.lt_irrefl _)
  refine ay7 (ws:=#[.ref s.heap.objs.size,.none,.none,.none,.bool false,.none]++ownMembersOf (.type "StopIteration") []) ?_ ea (by rw [← ho]) (by simp [ownMembersOf]) (fun x hx=>?_) fun h' k c=>h h1.objs.size h' (fun b o e=>(k b (old b o e)).trans (k1 b o e)) ?_
  · rcases hq with z | ⟨x,o,vs,a1,a2,a3⟩
    · exact .inl z
    · exact .inr ⟨x,o,vs,a1,k1 _ _ a2,a3⟩
  · rcases hq with z | ⟨x',o,vs,a1,a2,a3⟩
    · rw [z] at hx;cases hx
    · rw [a1] at hx;cases hx
      exact old _ _ a2
  · obtain ⟨o,e,c⟩:=c
    exact ⟨o,e,by rw [c,← ho]⟩
theorem a3K {T id:String} {b:Builtin} {it:Addr} {Q:Option Value→Shared→Prop} (slot:Slot T (Str.ofString "__next__") id) (entry:entryFor table id=some b) (hT:s.TypeIs (.ref it) T) (args:argsOk id ⟨[.ref it],[]⟩)
    (hb:wpAny (model prog w) A.in1 (b ⟨[.ref it],[]⟩) (fun _ _=>False) (fun e s'=>∃ a o,e = .ref a∧s'.heap.get? a=some o∧o.cls = .type "StopIteration" ∧ Q none s') s):wpAny (model prog w) A (pyNext (.ref it)) Q E s:=by
  unfold pyNext
  refine wpAny_bind (wpAny_attempt (wpAny_callSpecial?_slot hT slot (wpAny_call_entry slot hT entry (wpAny_mono hb (fun _ _ z=>z.elim) fun e s' z=>?_) args)))
  obtain ⟨a,o,rfl,e1,e2,q⟩:=z
  exact wpAny_bind (wpAny_isInstance (T := "StopIteration") (b:=true) ⟨o,e1,e2⟩ isSubtype_stop (wpAny_pure q))
theorem ai7 {it:Addr} {o:Obj} {vs:Array Value} {i:Nat} {v:Value} (hq:alC A s.heap) (e:s.heap.get? it=some o) (d:o.data = .fields vs) (l:vs[2]?≠some .none):alC A (s.heap.update it (Obj.mapFields (·.setIfInBounds i v))):=by
  rcases hq with z | ⟨x,ox,ws,a1,a2,a3,a4⟩
  · exact .inl z
  · refine .inr ⟨x,ox,ws,a1,?_,a3,a4⟩
    have ne:x≠it:=fun z=>by
      subst z
      rw [e] at a2
      cases a2
      rw [d] at a3
      cases a3
      exact l a4
    exact ((yS e d).2.2.2 x ne).trans a2
theorem ay8 {it l:Addr} {i:Nat} {items:Array Value} {Q:Option Value→Shared→Prop} (hq:alC A s.heap) (hit:s.heap.IsListIter it l i) (hl:s.heap.IsList l items) (hx:items[i]?=none)
    (h:∀ h',Heap.ExtBut it s.heap h'→Q none { s with heap:=h' }):wpAny (model prog w) A (pyNext (.ref it)) Q E s:=by
  obtain ⟨o,e1,c1,d1⟩:=id hit
  obtain ⟨ol,e2,_,nl,d2⟩:=hl
  refine a3K slot_listiter_next entry_listiter_next hit.typeIs (args_listiter_next _) ?_
  show wpAny (model prog w) _ (field (.ref it) 0 >>= _) _ _ s
  refine wpAny_bind (wpAny_field e1 d1 (x := .ref l) rfl ?_)
  show wpAny (model prog w) _ (field (.ref it) 1 >>= _) _ _ s
  refine wpAny_bind (wpAny_field e1 d1 (x := .int i 0) rfl ?_)
  show wpAny (model prog w) _ (seqItems? (.ref l) >>= _) _ _ s
  refine wpAny_bind (wpAny_seqItems e2 d2 ?_)
  simp only [hx,Int.toNat_natCast]
  refine wpAny_bind (wpAny_rule (wpAny_bind (wpAny_setField e1 d1 (by simp) ?_)))
  refine zP (A:=A.in1) (ai7 hq e1 d1 (by simp)) fun a h' k c=>?_
  obtain ⟨oa,ea,ca⟩:=c
  exact ⟨a,oa,rfl,ea,ca,h h' fun b ob n e=>k b ob (((yS e1 d1).2.2.2 b n).trans e)⟩
theorem aAH {it l:Addr} {i:Nat} {items:Array Value} {Q:Option Value→Shared→Prop} (hq:alC A s.heap) (hit:s.heap.IsTupleIter it l i) (hl:s.heap.IsTuple l items) (hx:items[i]?=none)
    (h:∀ h',Heap.ExtBut it s.heap h'→Q none { s with heap:=h' }):wpAny (model prog w) A (pyNext (.ref it)) Q E s:=by
  obtain ⟨o,e1,c1,d1⟩:=id hit
  obtain ⟨ol,e2,_,nl,d2⟩:=hl
  refine a3K F.slot_tuple_iterator_next F.entry_tuple_iterator_next hit.typeIs (F.args_tuple_iterator_next_1 _) ?_
  show wpAny (model prog w) _ (field (.ref it) 0 >>= _) _ _ s
  refine wpAny_bind (wpAny_field e1 d1 (x := .ref l) rfl ?_)
  show wpAny (model prog w) _ (field (.ref it) 1 >>= _) _ _ s
  refine wpAny_bind (wpAny_field e1 d1 (x := .int i 0) rfl ?_)
  show wpAny (model prog w) _ (seqItems? (.ref l) >>= _) _ _ s
  refine wpAny_bind (wpAny_seqItems e2 d2 ?_)
  simp only [hx,Int.toNat_natCast]
  refine wpAny_bind (wpAny_rule (wpAny_bind (wpAny_setField e1 d1 (by simp) ?_)))
  refine zP (A:=A.in1) (ai7 hq e1 d1 (by simp)) fun a h' k c=>?_
  obtain ⟨oa,ea,ca⟩:=c
  exact ⟨a,oa,rfl,ea,ca,h h' fun b ob n e=>k b ob (((yS e1 d1).2.2.2 b n).trans e)⟩
theorem aAI {it:Addr} {x left step:Int} {Q:Option Value→Shared→Prop} (hq:alC A s.heap) (hit:IsRangeIter s.heap it x left step) (hleft:left≤0)
    (h:∀ h',Heap.ExtBut it s.heap h'→Q none { s with heap:=h' }):wpAny (model prog w) A (pyNext (.ref it)) Q E s:=by
  refine a3K F.slot_range_iterator_next F.entry_range_iterator_next ⟨_,hit,rfl⟩ (F.args_range_iterator_next_1 _) ?_
  show wpAny (model prog w) _ (field (.ref it) 0 >>= _) _ _ s
  refine wpAny_bind (wpAny_field hit rfl (i:=0) rfl ?_)
  show wpAny (model prog w) _ (field (.ref it) 1 >>= _) _ _ s
  refine wpAny_bind (wpAny_field hit rfl (i:=1) rfl ?_)
  show wpAny (model prog w) _ (field (.ref it) 2 >>= _) _ _ s
  refine wpAny_bind (wpAny_field hit rfl (i:=2) rfl ?_)
  show wpAny (model prog w) _ (if left≤0 then _ else _) _ _ s
  rw [if_pos hleft]
  refine wpAny_bind (wpAny_rule (wpAny_bind ?_))
  refine zP (A:=A.in1) hq fun a h' k c=>?_
  obtain ⟨oa,ea,ca⟩:=c
  exact ⟨a,oa,rfl,ea,ca,h h' fun b ob n e=>k b ob e⟩
theorem ay9 {it:Addr} {x:Str} {t:Tok} {i:Nat} {Q:Option Value→Shared→Prop} (hq:alC A s.heap) (hit:s.heap.IsStrIter it "str_ascii_iterator" x t i) (hx:x.cps[i]?=none)
    (h:∀ h',Heap.ExtBut it s.heap h'→Q none { s with heap:=h' }):wpAny (model prog w) A (pyNext (.ref it)) Q E s:=by
  obtain ⟨o,e1,c1,d1⟩:=id hit
  refine a3K F.slot_str_ascii_iterator_next F.entry_str_ascii_iterator_next hit.typeIs (F.args_str_ascii_iterator_next_1 _) ?_
  show wpAny (model prog w) _ (field (.ref it) 0 >>= _) _ _ s
  refine wpAny_bind (wpAny_field e1 d1 (x := .str x t) rfl ?_)
  show wpAny (model prog w) _ (field (.ref it) 1 >>= _) _ _ s
  refine wpAny_bind (wpAny_field e1 d1 (x := .int i 0) rfl ?_)
  simp only [hx,Int.toNat_natCast]
  refine wpAny_bind (wpAny_rule (wpAny_bind (wpAny_setField e1 d1 (by simp) (wpAny_bind (wpAny_letGo ?_)))))
  refine zP (A:=A.in1) (ai7 hq e1 d1 (by simp)) fun a h' k c=>?_
  obtain ⟨oa,ea,ca⟩:=c
  exact ⟨a,oa,rfl,ea,ca,h h' fun b ob n e=>k b ob (((yS e1 d1).2.2.2 b n).trans e)⟩
theorem ayA {it:Addr} {x:Str} {t:Tok} {i:Nat} {Q:Option Value→Shared→Prop} (hq:alC A s.heap) (hit:s.heap.IsStrIter it "str_iterator" x t i) (hx:x.cps[i]?=none)
    (h:∀ h',Heap.ExtBut it s.heap h'→Q none { s with heap:=h' }):wpAny (model prog w) A (pyNext (.ref it)) Q E s:=by
  obtain ⟨o,e1,c1,d1⟩:=id hit
  refine a3K F.slot_str_iterator_next F.entry_str_iterator_next hit.typeIs (F.args_str_iterator_next_1 _) ?_
  show wpAny (model prog w) _ (field (.ref it) 0 >>= _) _ _ s
  refine wpAny_bind (wpAny_field e1 d1 (x := .str x t) rfl ?_)
  show wpAny (model prog w) _ (field (.ref it) 1 >>= _) _ _ s
  refine wpAny_bind (wpAny_field e1 d1 (x := .int i 0) rfl ?_)
  simp only [hx,Int.toNat_natCast]
  refine wpAny_bind (wpAny_rule (wpAny_bind (wpAny_setField e1 d1 (by simp) (wpAny_bind (wpAny_letGo ?_)))))
  refine zP (A:=A.in1) (ai7 hq e1 d1 (by simp)) fun a h' k c=>?_
  obtain ⟨oa,ea,ca⟩:=c
  exact ⟨a,oa,rfl,ea,ca,h h' fun b ob n e=>k b ob (((yS e1 d1).2.2.2 b n).trans e)⟩
end
end L2
namespace L2
open PySem PySem.Spec PyProof.Rows
abbrev Key:=Sum Int Str
def aiG:Key→Value→Bool
  | .inl k,v=>Value.isInt k v
  | .inr x,v=>Value.isStrOf x v
def aWH (w:World):Key→Int
  | .inl k=>hashInt k
  | .inr x=>hashStr w x
theorem iZ:∀ {k:Key} {v:Value},aiG k v=true→(∃ i t,k=Sum.inl i∧v=Value.int i t)∨(∃ x t,k=Sum.inr x∧v=Value.str x t)
  | .inl i,v,h=>by
    obtain ⟨t,e⟩:=Value.isInt_shape (k:=i) (v:=v) h
    exact .inl ⟨i,t,rfl,e⟩
  | .inr x,v,h=>by
    obtain ⟨t,e⟩:=Value.isStrOf_shape (x:=x) (v:=v) h
    exact .inr ⟨x,t,rfl,e⟩
theorem ayB (i:Int) (t:Tok):aiG (.inl i) (.int i t)=true:=by simp [aiG,Value.isInt]
theorem ayC (x:Str) (t:Tok):aiG (.inr x) (.str x t)=true:=by simp [aiG,Value.isStrOf]
theorem aLB (a b:Int):decide ((Sum.inl a:Key)=Sum.inl b)=(a == b):=by
  by_cases e:a=b
  · subst e;simp
  · have h:¬ (Sum.inl a:Key)=Sum.inl b:=fun q=>e (Sum.inl.inj q)
    rw [decide_eq_false h]
    exact (beq_eq_false_iff_ne.mpr e).symm
theorem aLC (a b:Str):decide ((Sum.inr a:Key)=Sum.inr b)=decide (a=b):=by
  by_cases e:a=b
  · subst e;simp
  · have h:¬ (Sum.inr a:Key)=Sum.inr b:=fun q=>e (Sum.inr.inj q)
    rw [decide_eq_false h,decide_eq_false e]
theorem aLD (a:Int) (b:Str):decide ((Sum.inl a:Key)=Sum.inr b)=false:=decide_eq_false (fun q=>nomatch q)
theorem aLE (a:Str) (b:Int):decide ((Sum.inr a:Key)=Sum.inl b)=false:=decide_eq_false (fun q=>nomatch q)
def bF (prog:Program) (w:World):PySem.KeyKind prog w Key where
  is:=aiG
  hash:=aWH w
  inj:=fun v a b ha hb=>by
    rcases iZ ha with ⟨i,t,rfl,rfl⟩ | ⟨x,t,rfl,rfl⟩
    · rcases iZ hb with ⟨j,u,rfl,e⟩ | ⟨y,u,rfl,e⟩
      · injection e with e1 _;rw [e1]
      · exact nomatch e
    · rcases iZ hb with ⟨j,u,rfl,e⟩ | ⟨y,u,rfl,e⟩
      · exact nomatch e
      · injection e with e1 _;rw [e1]
  byValue:=fun k v h=>by
    rcases iZ h with ⟨i,t,rfl,rfl⟩ | ⟨x,t,rfl,rfl⟩ <;> rfl
  pyHash:=fun hv h=>by
    rcases iZ hv with ⟨i,t,rfl,rfl⟩ | ⟨x,t,rfl,rfl⟩
    · exact wpAny_pyHash_int h
    · exact wpAny_pyHash_str h
  eqBool:=fun hu hv h=>by
    rcases iZ hu with ⟨i,t,rfl,rfl⟩ | ⟨x,t,rfl,rfl⟩
    · rcases iZ hv with ⟨j,u,rfl,rfl⟩ | ⟨y,u,rfl,rfl⟩
      · rw [aLB] at h;exact wpAny_eqBool_int h
      · rw [aLD] at h;exact SeqAt.EqAt.int_str i t y u _ _ _ _ h
    · rcases iZ hv with ⟨j,u,rfl,rfl⟩ | ⟨y,u,rfl,rfl⟩
      · rw [aLE] at h;exact SeqAt.EqAt.str_int x t j u _ _ _ _ h
      · rw [aLC] at h;exact wpAny_eqBool_str h
  «strs» := fun k x t v h=>by
    rcases iZ h with ⟨i,u,rfl,e⟩ | ⟨y,u,rfl,e⟩
    · exact nomatch e
    · injection e with e1 _
      subst e1
      cases v <;> rfl
theorem aqO (prog:Program) (w:World) (i:Int) (t:Tok):(bF prog w).is (.inl i) (.int i t)=true:=ayB i t
theorem aqP (prog:Program) (w:World) (x:Str) (t:Tok):(bF prog w).is (.inr x) (.str x t)=true:=ayC x t
end L2
namespace L2
open PySem PySem.Spec PyProof.Rows
inductive V where
  | non | bl (b:Bool) | int (i:Int) | str (x:Str) | byt (b:Array UInt8) | flt (b:UInt64) | ref (a:Addr) | ty (n:String)
  deriving DecidableEq
def RelV:V→Value→Prop
  | .non,u=>u=Value.none
  | .bl b,u=>u=Value.bool b
  | .int i,u=>∃ t,u=Value.int i t
  | .str x,u=>∃ t,u=Value.str x t
  | .byt b,u=>∃ t,u=Value.bytes b t
  | .flt b,u=>∃ t,u=Value.float b t
  | .ref a,u=>u=Value.ref a
  | .ty n,u=>u=Value.type n
abbrev Vals:List V→List Value→Prop:=Paired RelV
theorem Vals.length {xs:List V} {us:List Value} (r:Vals xs us):xs.length=us.length:=Paired.length r
theorem Vals.get:∀ {xs:List V} {us:List Value} {i:Nat} {x:V},Vals xs us→xs[i]?=some x→∃ u,us[i]?=some u∧RelV x u
  | _,_,_,_,.nil,e=>by simp at e
  | _,_,0,_,.cons r _,e=>by simp at e;subst e;exact ⟨_,rfl,r⟩
  | _,_,i+1,x,.cons _ t,e=>by
    obtain ⟨u,h1,h2⟩:=Vals.get (i:=i) (x:=x) t (by simpa using e)
    exact ⟨u,by simpa using h1,h2⟩
theorem Vals.set {x:V} {u:Value} (r:RelV x u):∀ {xs:List V} {us:List Value} (i:Nat),Vals xs us→Vals (xs.set i x) (us.set i u)
  | _,_,_,.nil => .nil
  | _,_,0,.cons _ t => .cons r t
  | _,_,i+1,.cons q t => .cons q (Vals.set r i t)
theorem Vals.append:∀ {xs ys:List V} {us ws:List Value},Vals xs us→Vals ys ws→Vals (xs++ys) (us++ws)
  | _,_,_,_,.nil,s=>s
  | _,_,_,_,.cons r t,s => .cons r (Vals.append t s)
theorem Vals.take:∀ {xs:List V} {us:List Value} (n:Nat),Vals xs us→Vals (xs.take n) (us.take n)
  | _,_,0,_ => .nil
  | _,_,_+1,.nil => .nil
  | _,_,n+1,.cons r t => .cons r (Vals.take n t)
theorem Vals.drop:∀ {xs:List V} {us:List Value} (n:Nat),Vals xs us→Vals (xs.drop n) (us.drop n)
  | _,_,0,r=>r
  | _,_,_+1,.nil => .nil
  | _,_,n+1,.cons _ t=>Vals.drop n t
theorem Vals.none_of:∀ {xs:List V} {us:List Value} {i:Nat},Vals xs us→xs[i]?=none→us[i]?=none:=fun {xs us i} r e=>by
  have h1:=r.length
  have h2:xs.length≤i:=List.getElem?_eq_none_iff.mp e
  exact List.getElem?_eq_none_iff.mpr (by omega)
def a4T:Option V→Option Value→Prop
  | some v,some u=>RelV v u
  | none,none=>True
  | _,_=>False
def KV {κ:Type}:List (κ×V)→List (κ×Value)→Prop:=Paired fun (p:κ×V) (q:κ×Value)=>p.1=q.1∧RelV p.2 q.2
def kV:Key→V
  | .inl i => .int i
  | .inr x => .str x
inductive HO where
  | lst (xs:List V)
  | tup (xs:List V)
  | dK (kvs:List (Key×V)) | dT (kvs:List (List Key×V))
  | set (S:Int→Bool) (n:Nat)
  | ins (C dx:Addr) (fs:List (Str×V))
  | own (x:Addr)
  | xd (fs:List (Str×V))
  | met (f x:Addr)
  | rng (lo hi:Int)
  | frz (o:Obj) (u:HO)
  | tbl (ps:Array Value)
  | ext (φ:Heap→Prop)
abbrev Hp:=Addr→Option HO
def upd (H:Hp) (a:Addr) (o:HO):Hp:=fun b=>if b=a then some o else H b
theorem aV {H:Hp} {a:Addr} {o:HO}:upd H a o a=some o:=by unfold upd;rw [if_pos rfl]
theorem dF {H:Hp} {a b:Addr} {o:HO} (h:b≠a):upd H a o b=H b:=by unfold upd;rw [if_neg h]
theorem awJ {H:Hp} {a b:Addr} {o u:HO} (h:H a=some o) (h':H b=some u) (d:o≠u):a≠b:=by
  intro e;subst e;rw [h] at h';exact d (Option.some.inj h')
theorem uT {H:Hp} {a b:Addr} {o:HO} (h:H a=some o) (h':H b=none):a≠b:=by
  intro e;subst e;rw [h] at h';cases h'
section
variable (P:Program) (w:World)
def oJ (H:Hp) (h:Heap) (a:Addr):HO→Prop
  | .lst xs=>xs.length≤sizeLine∧∃ (its:List Value) (n:Nat),Vals xs its∧h.get? a=some { cls := .type "list",data := .seq its.toArray n }
  | .tup xs=>xs.length≤sizeLine∧∃ its:List Value,Vals xs its∧IsTup h a its.toArray
  | .dK kvs=>kvs.length≤sizeLine∧(a == sysModules)=false∧∃ vs,KV kvs vs∧h.DictOf (bF P w) a vs
  | .dT kvs=>kvs.length≤sizeLine∧(a == sysModules)=false∧∃ xs:List (List Key×Addr×Value),
      Paired (fun (p:List Key×V) (q:List Key×Addr×Value)=>p.1=q.1∧H q.2.1=some (.tup (p.1.map kV))∧RelV p.2 q.2.2) kvs xs ∧
      ∃ o es ep,h.get? a=some o∧o.ExactDict∧o.data = .dict es ep∧es.toList=xs.map (entryOfKey (tupleKind (bF P w)))∧(xs.map (·.1)).Nodup
  | .set S n=>h.SetOf (intKind P w) a S n
  | .ins C dx fs=>H dx=some (.own a)∧fs.length≤1000∧dx≠a∧h.get? a=some (PySem.W.instObj C dx) ∧
      ∃ mA,h.Ns1 dx mA∧(∀ f,a4T (fs.lookup f) (mA f))∧PySem.Within mA (fs.map (·.1))
  | .own _=>∃ o,h.get? a=some o
  | .xd fs=>∃ mA,h.Ns1 a mA∧∀ f,a4T (fs.lookup f) (mA f)
  | .rng lo hi=>∃ t u v,h.get? a=some { cls := .type "range",data := .fields #[.int lo t,.int hi u,.int 1 v] }
  | .frz o u=>h.get? a=some o∧oJ H h a u
  | .tbl ps=>h.get? a=some { cls := .none,data := .fields ps }
  | .met f x=>h.get? a=some (PySem.W.methodObj (.ref f) (.ref x))
  | .ext φ=>φ h∧(∃ o,h.get? a=some o)∧∀ h1 h2:Heap,φ h1→(∀ o,h1.get? a=some o→h2.get? a=some o)→φ h2
def HOk (H:Hp) (h:Heap):Prop:=∀ a o,H a=some o→oJ P w H h a o
end
section
variable {P:Program} {w:World} {H H':Hp} {h h':Heap} {a:Addr} {o:HO}
theorem oJ.lt (x:oJ P w H h a o):a < h.objs.size:=by
  cases o with
  | lst xs=>obtain ⟨_,_,_,_,e⟩:=x;exact Heap.lt_size e
  | tup xs=>obtain ⟨_,_,_,p⟩:=x;exact p.lt
  | dK kvs=>obtain ⟨_,_,_,_,o,_,_,e,_⟩:=x;exact Heap.lt_size e
  | dT kvs=>obtain ⟨_,_,_,_,o,_,_,e,_⟩:=x;exact Heap.lt_size e
  | set S n=>obtain ⟨o,_,_,_,e,_⟩:=x;exact Heap.lt_size e
  | ins C dx fs=>obtain ⟨_,_,_,e,_⟩:=x;exact Heap.lt_size e
  | own y=>obtain ⟨_,e⟩:=x;exact Heap.lt_size e
  | xd fs=>obtain ⟨_,⟨_,_,_,e,_⟩,_⟩:=x;exact Heap.lt_size e
  | rng lo hi=>obtain ⟨_,_,_,e⟩:=x;exact Heap.lt_size e
  | frz ob u=>obtain ⟨e,_⟩:=x;exact Heap.lt_size e
  | tbl ps=>exact Heap.lt_size (show h.get? a=some _ from x)
  | met f y=>exact Heap.lt_size (show h.get? a=some _ from x)
  | ext φ=>obtain ⟨_,⟨_,e⟩,_⟩:=x;exact Heap.lt_size e
theorem Paired.aLF {α β:Type} {F G:α→β→Prop}:∀ {l₁:List α} {l₂:List β},Paired F l₁ l₂→(∀ a b,F a b→G a b)→Paired G l₁ l₂
  | _,_,.nil,_ => .nil
  | _,_,.cons r t,f => .cons (f _ _ r) (Paired.aLF t f)
theorem oJ.stay (x:oJ P w H h a o) (k:∀ b u,(b=a∨H b=some (.own a))→h.get? b=some u→h'.get? b=some u)
    (ho:∀ b,H b=some (.own a)→H' b=some (.own a)) (ht:∀ b xs,H b=some (.tup xs)→H' b=some (.tup xs)):oJ P w H' h' a o:=by
  induction o with
  | lst xs=>obtain ⟨z,its,n,r,e⟩:=x;exact ⟨z,its,n,r,k _ _ (.inl rfl) e⟩
  | tup xs=>obtain ⟨z,its,r,ob,e,c⟩:=x;exact ⟨z,its,r,ob,k _ _ (.inl rfl) e,c⟩
  | dK kvs=>obtain ⟨z,y,vs,r,ob,es,ep,e,c⟩:=x;exact ⟨z,y,vs,r,ob,es,ep,k _ _ (.inl rfl) e,c⟩
  | dT kvs =>
    obtain ⟨z,y,xs,r,ob,es,ep,e,c⟩:=x
    exact ⟨z,y,xs,Paired.aLF r fun p q z=>⟨z.1,ht _ _ z.2.1,z.2.2⟩,ob,es,ep,k _ _ (.inl rfl) e,c⟩
  | set S n=>obtain ⟨ob,es,ep,t,e,c⟩:=x;exact ⟨ob,es,ep,t,k _ _ (.inl rfl) e,c⟩
  | ins C dx fs =>
    obtain ⟨d,z,ne,e,mA,⟨od,es,ep,e2,c⟩,r⟩:=x
    exact ⟨ho _ d,z,ne,k _ _ (.inl rfl) e,mA,⟨od,es,ep,k _ _ (.inr d) e2,c⟩,r⟩
  | own y=>obtain ⟨ob,e⟩:=x;exact ⟨ob,k _ _ (.inl rfl) e⟩
  | xd fs=>obtain ⟨mA,⟨od,es,ep,e,c⟩,r⟩:=x;exact ⟨mA,⟨od,es,ep,k _ _ (.inl rfl) e,c⟩,r⟩
  | rng lo hi=>obtain ⟨t,u,v,e⟩:=x;exact ⟨t,u,v,k _ _ (.inl rfl) e⟩
  | frz ob u ih=>obtain ⟨e,q⟩:=x;exact ⟨k _ _ (.inl rfl) e,ih q⟩
  | tbl ps =>
    have e:h.get? a=some { cls := .none,data := .fields ps }:=x
    show h'.get? a=some { cls := .none,data := .fields ps }
    exact k a _ (.inl rfl) e
  | met f y =>
    have e:h.get? a=some (PySem.W.methodObj (.ref f) (.ref y)):=x
    show h'.get? a=some (PySem.W.methodObj (.ref f) (.ref y))
    exact k a _ (.inl rfl) e
  | ext φ=>obtain ⟨p,⟨o,e⟩,st⟩:=x;exact ⟨st _ _ p fun o q=>k _ _ (.inl rfl) q,⟨o,k _ _ (.inl rfl) e⟩,st⟩
theorem HOk.lt (x:HOk P w H h) (e:H a=some o):a < h.objs.size:=(x a o e).lt
theorem HOk.fresh (x:HOk P w H h) (e:h.objs.size≤a):H a=none:=by
  cases q:H a with
  | none=>rfl
  | some u=>exact absurd (Nat.lt_of_lt_of_le (x.lt q) e) (Nat.lt_irrefl _)
theorem HOk.kept (x:HOk P w H h) (k:∀ b u,h.get? b=some u→h'.get? b=some u):HOk P w H h':=fun a o e =>
  (x a o e).stay (fun b u _ q=>k b u q) (fun _ q=>q) fun _ _ q=>q
theorem HOk.laid (x:HOk P w H h) (k:∀ b u,h.get? b=some u→h'.get? b=some u) (hp:h.objs.size≤a) (new:oJ P w (upd H a o) h' a o):HOk P w (upd H a o) h':=fun b u e=>by
  have hn:=x.fresh hp
  by_cases hb:b=a
  · subst hb;rw [aV] at e;cases e;exact new
  · rw [dF hb] at e
    exact (x b u e).stay (fun c v _ q=>k c v q) (fun c q=>by rw [dF (uT q hn)];exact q) fun c xs q=>by rw [dF (uT q hn)];exact q
end
def Rd (H:Hp) (a:Addr) (u:HO):Prop:=H a=some u∨∃ o,H a=some (.frz o u)
theorem Rd.of {H:Hp} {a:Addr} {u:HO} (h:H a=some u):Rd H a u := .inl h
theorem Rd.ok {P:Program} {w:World} {H:Hp} {h:Heap} {a:Addr} {u:HO} (r:Rd H a u) (x:HOk P w H h):oJ P w H h a u:=by
  rcases r with r | ⟨o,r⟩
  · exact x a u r
  · obtain ⟨_,q⟩:=x a _ r
    exact q
def Mut:Option HO→Prop
  | some (.lst _)=>True
  | some (.dK _)=>True
  | some (.dT _)=>True
  | some (.set _ _)=>True
  | some (.ins _ _ _)=>True
  | some (.ext _)=>True
  | _=>False
section
variable {P:Program} {w:World} {H:Hp} {h h':Heap} {x e:Addr} {o':HO}
theorem HOk.write (ok:HOk P w H h) (mu:Mut (H x)) (he:e=x∨H e=some (.own x)) (k:∀ b u,b≠e→h.get? b=some u→h'.get? b=some u) (heo:∃ u,h'.get? e=some u)
    (new:oJ P w (upd H x o') h' x o'):HOk P w (upd H x o') h':=fun b u q=>by
  have aR8:∀ c y,H c=some (.own y)→c≠x:=fun c y r z=>by subst z;rw [r] at mu;exact mu
  have aWI:∀ c xs,H c=some (.tup xs)→c≠x:=fun c xs r z=>by subst z;rw [r] at mu;exact mu
  by_cases hb:b=x
  · subst hb;rw [aV] at q;cases q;exact new
  · rw [dF hb] at q
    by_cases hbe:b=e
    · have q':H b=some (.own x):=by
        rcases he with z | z
        · exact absurd (hbe.trans z) hb
        · rw [hbe];exact z
      rw [q] at q';cases q'
      obtain ⟨v,hv⟩:=heo
      exact ⟨v,by rw [hbe];exact hv⟩
    · refine (ok b u q).stay (fun c v hc r=>k c v ?_ r) (fun c r=>by rw [dF (aR8 c b r)];exact r) fun c xs r=>by rw [dF (aWI c xs r)];exact r
      rcases hc with rfl | hc
      · exact hbe
      · rintro rfl
        rcases he with z | z
        · exact aR8 c b hc z
        · rw [hc] at z;cases z;exact hb rfl
end
structure Un (fs ex:List Addr) (H H':Hp) (h h':Heap):Prop where
  keep:∀ b o,h.get? b=some o→H b=none→b ∉ fs→b ∉ ex→h'.get? b=some o
  slot:∀ b o,h.get? b=some o→H b=none→b∈fs→b ∉ ex→∃ sl,h'.get? b=some { o with slots:=sl }
  free:∀ b o,h.get? b=some o→H b=none→b ∉ ex→H' b=none
  there:∀ b o,h.get? b=some o→b ∉ ex→∃ o',h'.get? b=some o'
  tups:∀ b xs,H b=some (.tup xs)→H' b=some (.tup xs)
  tG:∀ b o u,H b=some (.frz o u)→H' b=some (.frz o u)
  a4U:∀ b ps,H b=some (.tbl ps)→∃ more,H' b=some (.tbl (ps++more))
section
variable {fs fs' ex ex':List Addr} {H H1 H2:Hp} {h h1 h2 h':Heap} {a x e:Addr} {o:HO}
theorem Un.any (u:Un fs ex H H1 h h1) {b:Addr} {ob:Obj} (q:h.get? b=some ob) (n:H b=none) (hx:b ∉ ex):∃ sl,h1.get? b=some { ob with slots:=sl }:=by
  by_cases hb:b∈fs
  · exact u.slot b ob q n hb hx
  · exact ⟨ob.slots,u.keep b ob q n hb hx⟩
theorem Un.trans (a:Un fs ex H H1 h h1) (b:Un fs ex H1 H2 h1 h2):Un fs ex H H2 h h2 where
  keep:=fun c ob q n hc hx=>b.keep c ob (a.keep c ob q n hc hx) (a.free c ob q n hx) hc hx
  slot:=fun c ob q n hc hx=>by
    obtain ⟨sl,e1⟩:=a.slot c ob q n hc hx
    obtain ⟨sl',e2⟩:=b.slot c _ e1 (a.free c ob q n hx) hc hx
    exact ⟨sl',e2⟩
  free:=fun c ob q n hx=>by
    obtain ⟨o',e1⟩:=a.there c ob q hx
    exact b.free c o' e1 (a.free c ob q n hx) hx
  there:=fun c ob q hx=>by
    obtain ⟨o',e1⟩:=a.there c ob q hx
    exact b.there c o' e1 hx
  tups:=fun c xs q=>b.tups c xs (a.tups c xs q)
  tG:=fun c ob xs q=>b.tG c ob xs (a.tG c ob xs q)
  a4U:=fun c ps q=>by
    obtain ⟨m1,e1⟩:=a.a4U c ps q
    obtain ⟨m2,e2⟩:=b.a4U c _ e1
    exact ⟨m1++m2,by rw [e2,Array.append_assoc]⟩
theorem Un.kept (k:∀ b u,h.get? b=some u→h'.get? b=some u):Un fs ex H H h h' :=
  ⟨fun b ob q _ _ _=>k b ob q,fun b ob q _ _ _=>⟨ob.slots,k b ob q⟩,fun _ _ _ n _=>n,fun b ob q _=>⟨ob,k b ob q⟩,fun _ _ q=>q,fun _ _ _ q=>q,fun _ ps q=>⟨#[],by rw [q];simp⟩⟩
theorem Un.refl:Un fs ex H H h h:=Un.kept fun _ _ q=>q
theorem Un.laid (k:∀ b u,h.get? b=some u→h'.get? b=some u) (hp:h.objs.size≤a) (hn:H a=none):Un fs ex H (upd H a o) h h' where
  keep:=fun b u q _ _ _=>k b u q
  slot:=fun b u q _ _ _=>⟨u.slots,k b u q⟩
  free:=fun b u q n _=>by rw [dF (Nat.ne_of_lt (Nat.lt_of_lt_of_le (Heap.lt_size q) hp))];exact n
  there:=fun b u q _=>⟨u,k b u q⟩
  tups:=fun b xs q=>by rw [dF (uT q hn)];exact q
  tG:=fun b u xs q=>by rw [dF (uT q hn)];exact q
  a4U:=fun b ps q=>⟨#[],by rw [dF (uT q hn),q];simp⟩
theorem Un.write (mu:Mut (H x)) (he:e=x∨H e=some (.own x)) (k:∀ b u,b≠e→h.get? b=some u→h'.get? b=some u) (heo:∃ u,h'.get? e=some u):Un fs ex H (upd H x o) h h':=by
  have hx:∀ b,H b=none→b≠x:=fun b n z=>by subst z;rw [n] at mu;exact mu
  have hb:∀ b,H b=none→b≠e:=fun b n z=>by
    subst z
    rcases he with r | r
    · exact hx b n r
    · rw [n] at r;cases r
  have hm:∀ b u,H b=some u→¬ Mut (some u)→b≠x:=fun b u q nm z=>by subst z;rw [q] at mu;exact nm mu
  refine ⟨fun b u q n _ _=>k b u (hb b n) q,fun b u q n _ _=>⟨u.slots,k b u (hb b n) q⟩,fun b u q n _=>by rw [dF (hx b n)];exact n,fun b u q _=>?_,
    fun b xs q=>by rw [dF (hm b _ q fun z=>z)];exact q,fun b u xs q=>by rw [dF (hm b _ q fun z=>z)];exact q,fun b ps q=>⟨#[],by rw [dF (hm b _ q fun z=>z),q];simp⟩⟩
  by_cases hbe:b=e
  · subst hbe;exact heo
  · exact ⟨u,k b u hbe q⟩
theorem Un.mono (u:Un fs ex H H1 h h1) (hs:∀ b∈fs,b∈fs') (hx:∀ b∈ex,b∈ex'):Un fs' ex' H H1 h h1 :=
  ⟨fun b ob q n hb he=>u.keep b ob q n (fun z=>hb (hs b z)) fun z=>he (hx b z),fun _ _ q n _ he=>u.any q n fun z=>he (hx _ z),fun b ob q n he=>u.free b ob q n fun z=>he (hx b z),fun b ob q he=>u.there b ob q fun z=>he (hx b z),u.tups,u.tG,u.a4U⟩
end
def trk (h:Heap) (H:Hp):List Addr:=(List.range h.objs.size).filter fun a=>(H a).isSome
def anS (h:Heap) (H:Hp):Heap:=PySem.W.hideAll h (trk h H)
theorem ayD (h:Heap) (H:Hp):(anS h H).objs.size=h.objs.size:=PySem.W.hideAll_size _ _
theorem aAJ {h:Heap} {H:Hp} {b:Addr} {o:Obj} (e:h.get? b=some o) (n:H b=none):(anS h H).get? b=some o :=
  PySem.W.hideAll_get _ e fun hm=>by
    have q:(H b).isSome=true:=(List.mem_filter.mp hm).2
    rw [n] at q;simp at q
theorem aER {h:Heap} {H:Hp} {b:Addr} {o:Obj} (e:(anS h H).get? b=some o):h.get? b=some o∧H b=none:=by
  have e':h.get? b=some o:=PySem.W.of_hideAll (trk h H) e
  refine ⟨e',?_⟩
  cases q:H b with
  | none=>rfl
  | some x =>
    have hm:b∈trk h H:=List.mem_filter.mpr ⟨List.mem_range.mpr (Heap.lt_size e'),by simp [q]⟩
    have z:(anS h H).get? b=none:=PySem.W.hideAll_none (trk h H) hm
    rw [z] at e;cases e
def aES (g h:Heap) (L:Addr):List (Addr×Obj):=(List.range h.objs.size).filterMap fun a=>if a=L∨(g.get? a).isSome=true then none else (h.get? a).map fun o=>(a,o)
def rest (g h:Heap) (L d:Addr):List (Addr×Obj):=(aES g h L).filter fun p=>decide (p.1≠d)
end L2
namespace L2
open PySem PySem.Spec PyProof.Rows
structure Mod (K:PySem.W.Frag) (mg:Str→Option Value) (base:Heap):Prop where
  kin:K.In base
  glob:base.Ns mainGlobals mg
  blt:∃ mb,base.Ns builtinsNs mb∧∀ x:Str,x ≠ "__name__" → mb x=bootBuiltins x
  nolimit:base.NoLimit
structure Cx where
  prog:Program
  w:World
  K:PySem.W.Frag
  mg:Str→Option Value
  base:Heap
  A:Around
  N:List Str
  s₀:Shared
  H₀:Hp
  env:Env
  outer:List Env
  stack:List Env
  ex:List Addr
  fn:Str→Bool
  calm:Bool
  pn:List (Addr×Obj)
  tp:List (Addr×List V)
  xe:Value→Shared→Prop
def frs (l:List Env):List Addr:=l.filterMap (·.frame)
abbrev Cx.fs (X:Cx):List Addr:=frs X.outer
def Vis (sc:Scope) (x:Str):Prop:=sc.names.lookup x=some .local∨sc.names.lookup x=some .cell∨sc.names.lookup x=some .free
def Loc (sc:Scope) (x:Str):Prop:=sc.names.lookup x=some .local∨sc.names.lookup x=some .cell
def Look (env:Env) (h:Heap) (m:Str→Option Value) (x:Str) (u:Value):Prop :=
  (env.kindOf x=some .local∧m x=some u)∨((env.kindOf x=some .cell∨env.kindOf x=some .free)∧∃ c,env.cells.lookup x=some c∧h.IsCell c (some u))
structure Cx.Ok (X:Cx):Prop where
  mod:Mod X.K X.mg X.base
  kind:X.env.scope.kind = .function
  glob:X.env.globals=mainGlobals
  blt:X.env.builtins=builtinsNs
  above:X.s₀.heap.objs.size≤X.env.locals
  inj:∀ x y c,X.env.cells.lookup x=some c→X.env.cells.lookup y=some c→x=y
  has:∀ x,(X.env.kindOf x=some .cell∨X.env.kindOf x=some .free)→∃ c,X.env.cells.lookup x=some c
  cab:∀ x c,X.fn x=true→X.env.cells.lookup x=some c→X.s₀.heap.objs.size≤c
  hd:X.calm=true→X.A.handled=none
  frames:X.A.frames=some X.stack
  stk:X.stack=X.outer∨(X.stack=X.env :: X.outer∧X.env.frame=some X.env.locals)
  exf:∀ b∈X.ex,b≠X.env.locals∧∀ x c,X.env.cells.lookup x=some c→c≠b
  bs:∀ b o,X.base.get? b=some o→X.s₀.heap.get? b=some o∧X.H₀ b=none
  bsz:X.base.objs.size≤X.s₀.heap.objs.size
  alE:∀ b o,X.base.get? b=some o→b ∉ X.ex
  anT:∀ b∈X.ex,b ∉ X.fs
  a4V:X.s₀.heap.FunFrames X.base X.outer
  frf:∀ b∈X.fs,X.H₀ b=none
def Hnd (A:Around) (H:Hp):Prop:=A.handled=none∨∃ x o u vs,A.handled=some (.ref x)∧H x=some (.frz o u)∧o.data = .fields vs∧vs[2]?=some .none
theorem Hnd.mono {A:Around} {H H':Hp} (h:Hnd A H) (f:∀ b o u,H b=some (.frz o u)→H' b=some (.frz o u)):Hnd A H':=by
  rcases h with z | ⟨x,o,u,vs,a,b,c⟩
  · exact .inl z
  · exact .inr ⟨x,o,u,vs,a,f _ _ _ b,c⟩
theorem Hnd.heap {P:Program} {w:World} {A:Around} {H:Hp} {h:Heap} (q:Hnd A H) (hok:HOk P w H h):alC A h:=by
  rcases q with z | ⟨x,o,u,vs,a,b,c⟩
  · exact .inl z
  · exact .inr ⟨x,o,vs,a,(hok x _ b).1,c⟩
structure Inv (X:Cx) (pins:List (Addr×Obj)) (σ:List (Option V)) (H:Hp) (s:Shared):Prop where
  ok:X.Ok
  os:s.os=X.s₀.os
  bare:AllBare s.gens
  base:Un X.fs X.ex X.H₀ H X.s₀.heap s.heap
  loc:∃ m,s.heap.Ns X.env.locals m∧∀ (i:Nat) (x:Str) (v:V),X.N[i]?=some x→σ[i]?=some (some v)→Vis X.env.scope x→∃ u,RelV v u∧Look X.env s.heap m x u
  cell:∀ x c,X.env.cells.lookup x=some c→∃ v,s.heap.IsCell c v
  free:H X.env.locals=none
  wL:∀ x c,X.env.cells.lookup x=some c→H c=none
  pin:∀ p∈X.pn++pins,s.heap.get? p.1=some p.2∧H p.1=none∧p.1≠X.env.locals∧p.1 ∉ X.fs∧∀ v,p.2.data ≠ .cell v
  hok:HOk X.prog X.w H s.heap
  len:σ.length=X.N.length
  hnd:Hnd X.A H
  tup:∀ p∈X.tp,H p.1=some (.tup p.2)
section
variable {X:Cx} {pins:List (Addr×Obj)} {σ:List (Option V)} {H H':Hp} {s:Shared} {h':Heap}
theorem Cx.Ok.aWJ (ok:X.Ok) {b:Addr} {o:Obj} (e:X.base.get? b=some o):b ∉ X.fs:=fun hb=>by
  have:=(ok.a4V.mem hb).1
  rw [e] at this;cases this
theorem Inv.bs (I:Inv X pins σ H s):∀ b o,X.base.get? b=some o→s.heap.get? b=some o∧H b=none:=fun b o e =>
  ⟨I.base.keep b o (I.ok.bs b o e).1 (I.ok.bs b o e).2 (I.ok.aWJ e) (I.ok.alE b o e),I.base.free b o (I.ok.bs b o e).1 (I.ok.bs b o e).2 (I.ok.alE b o e)⟩
theorem Inv.bk (I:Inv X pins σ H s):∀ b o,X.base.get? b=some o→s.heap.get? b=some o:=fun b o e=>(I.bs b o e).1
theorem Inv.mod (I:Inv X pins σ H s):Mod X.K X.mg X.base:=I.ok.mod
theorem Inv.kIn (I:Inv X pins σ H s):X.K.In s.heap:=I.ok.mod.kin.keeps I.bk
theorem Inv.nolimit (I:Inv X pins σ H s):s.heap.NoLimit:=I.ok.mod.nolimit.keeps I.bk
theorem Inv.fr (I:Inv X pins σ H s):∃ m,Fr X.base X.env.locals s.heap m :=
  let ⟨m,hn,_⟩:=I.loc
  ⟨m,hn,I.bk,Nat.le_trans I.ok.bsz I.ok.above⟩
theorem Inv.lt (I:Inv X pins σ H s):X.env.locals < s.heap.objs.size:=let ⟨_,hn,_⟩:=I.loc;hn.lt
theorem Inv.sz (I:Inv X pins σ H s):X.s₀.heap.objs.size≤s.heap.objs.size:=Nat.le_trans I.ok.above (Nat.le_of_lt I.lt)
theorem Inv.aWK (I:Inv X pins σ H s) {a:Addr} (h:s.heap.objs.size≤a):a ∉ X.fs:=fun hb=>by
  obtain ⟨_,o,ho,_⟩:=I.ok.a4V.mem hb
  exact absurd (Nat.lt_of_lt_of_le (Heap.lt_size ho) (Nat.le_trans I.sz h)) (Nat.lt_irrefl _)
theorem Inv.cne (I:Inv X pins σ H s):∀ x c,X.env.cells.lookup x=some c→c≠X.env.locals:=fun x c e z=>by
  obtain ⟨v,o,ho,hd⟩:=I.cell x c e
  obtain ⟨m,⟨o',es,ep,ho',hd',_⟩,_⟩:=I.loc
  rw [z,ho'] at ho;cases ho;rw [hd'] at hd;cases hd
theorem Inv.a4V (I:Inv X pins σ H s):s.heap.FunFrames X.base X.outer:=by
  have all:∀ (l:List Env),(∀ b∈frs l,b∈X.fs)→X.s₀.heap.FunFrames X.base l→s.heap.FunFrames X.base l:=by
    intro l
    induction l with
    | nil=>intro _ _;trivial
    | cons env r ih =>
      intro hs hl
      obtain ⟨hk,⟨L,o,hf,hn,ho,hd⟩,hr⟩:=hl
      have hL:L∈X.fs:=hs L (by unfold frs;rw [List.filterMap_cons,hf];exact List.mem_cons_self)
      obtain ⟨sl,e⟩:=I.base.slot L o ho (I.ok.frf L hL) hL fun z=>I.ok.anT L z hL
      exact ⟨hk,⟨L,_,hf,hn,e,hd⟩,ih (fun b hb=>hs b (by unfold frs;rw [List.filterMap_cons,hf];exact List.mem_cons_of_mem _ hb)) hr⟩
  exact all X.outer (fun _ hb=>hb) I.ok.a4V
theorem Inv.stack (I:Inv X pins σ H s):s.heap.FunFrames X.base X.stack:=by
  rcases I.ok.stk with e | ⟨e,hf⟩
  · rw [e];exact I.a4V
  · rw [e]
    obtain ⟨m,hn,_⟩:=I.loc
    refine .cons (by rw [I.ok.kind];decide) hf hn ?_ I.a4V
    exact Heap.get?_none_of_le (Nat.le_trans I.ok.bsz I.ok.above)
theorem Inv.auJ (I:Inv X pins σ H s):∀ b∈frs X.stack,b∈X.env.locals :: X.fs:=fun b hb=>by
  rcases I.ok.stk with e | ⟨e,hf⟩
  · rw [e] at hb;exact List.mem_cons_of_mem _ hb
  · rw [e] at hb
    unfold frs at hb
    rw [List.filterMap_cons,hf] at hb
    exact hb
theorem Inv.anU (I:Inv X pins σ H s):∀ b∈frs X.stack,H b=none:=fun b hb=>by
  rcases List.mem_cons.mp (I.auJ b hb) with e | hb
  · rw [e];exact I.free
  · obtain ⟨_,o,ho,_⟩:=I.ok.a4V.mem hb
    exact I.base.free b o ho (I.ok.frf b hb) fun z=>I.ok.anT b z hb
theorem Inv.step {g':Array GenState} {t':Nat} {d':Drawn} {ch:List Addr} (I:Inv X pins σ H s)
    (hch:∀ b∈ch,(b∈X.ex∨X.s₀.heap.objs.size≤b)∧b≠X.env.locals∧(∀ x c,X.env.cells.lookup x=some c→c≠b)∧∀ p∈X.pn++pins,p.1≠b)
    (keep:∀ b o,b≠X.env.locals→b ∉ X.fs→b ∉ ch→s.heap.get? b=some o→H b=none→h'.get? b=some o)
    (slot:∀ b o,b≠X.env.locals→b∈X.fs→b ∉ ch→s.heap.get? b=some o→H b=none→∃ sl,h'.get? b=some { o with slots:=sl }) (free:∀ b o,b ∉ ch→s.heap.get? b=some o→H b=none→H' b=none)
    (there:∀ b o,b ∉ ch→s.heap.get? b=some o→∃ o',h'.get? b=some o')
    (tups:∀ b xs,H b=some (.tup xs)→H' b=some (.tup xs)) (tG:∀ b o u,H b=some (.frz o u)→H' b=some (.frz o u)) (a4U:∀ b ps,H b=some (.tbl ps)→∃ more,H' b=some (.tbl (ps++more)))
    (ns:∀ m,s.heap.Ns X.env.locals m→h'.Ns X.env.locals m) (hok:HOk X.prog X.w H' h') (hg:AllBare g') :
    Inv X pins σ H' { s with heap:=h',gens:=g',drawn:=d',toks:=t' }:=by
  have neL:∀ b o,X.s₀.heap.get? b=some o→b≠X.env.locals:=fun b o e=>Nat.ne_of_lt (Nat.lt_of_lt_of_le (Heap.lt_size e) I.ok.above)
  have neC:∀ b o,X.s₀.heap.get? b=some o→b ∉ X.ex→b ∉ ch:=fun b o e hx hb=>by
    rcases (hch b hb).1 with z | z
    · exact hx z
    · exact absurd (Nat.lt_of_lt_of_le (Heap.lt_size e) z) (Nat.lt_irrefl _)
  have cellK:∀ x c,X.env.cells.lookup x=some c→∀ v,s.heap.IsCell c v→h'.IsCell c v:=fun x c e v ⟨o,ho,hd⟩=>by
    have nch:c ∉ ch:=fun z=>(hch c z).2.2.1 x c e rfl
    by_cases hc:c∈X.fs
    · obtain ⟨sl,q⟩:=slot c o (I.cne x c e) hc nch ho (I.wL x c e)
      exact ⟨_,q,hd⟩
    · exact ⟨o,keep c o (I.cne x c e) hc nch ho (I.wL x c e),hd⟩
  refine ⟨I.ok,I.os,hg,⟨fun b o e n hb hx=>?_,fun b o e n hb hx=>?_,fun b o e n hx=>?_,fun b o e hx=>?_,fun b xs e=>tups b xs (I.base.tups b xs e),fun b o xs e=>tG b o xs (I.base.tG b o xs e),fun b ps e=>?_⟩,?_,fun x c e=>?_,?_,fun x c e=>?_,fun p hp=>?_,hok,I.len,I.hnd.mono tG,fun p hp=>tups _ _ (I.tup p hp)⟩
  · exact keep b o (neL b o e) hb (neC b o e hx) (I.base.keep b o e n hb hx) (I.base.free b o e n hx)
  · obtain ⟨sl,e1⟩:=I.base.slot b o e n hb hx
    obtain ⟨sl',e2⟩:=slot b _ (neL b o e) hb (neC b o e hx) e1 (I.base.free b o e n hx)
    exact ⟨sl',e2⟩
  · obtain ⟨o',e1⟩:=I.base.there b o e hx
    exact free b o' (neC b o e hx) e1 (I.base.free b o e n hx)
  · obtain ⟨o',e1⟩:=I.base.there b o e hx
    exact there b o' (neC b o e hx) e1
  · obtain ⟨m1,e1⟩:=I.base.a4U b ps e
    obtain ⟨m2,e2⟩:=a4U b _ e1
    exact ⟨m1++m2,by rw [e2,Array.append_assoc]⟩
  · obtain ⟨m,hn,hl⟩:=I.loc
    refine ⟨m,ns m hn,fun i x v e1 e2 e3=>?_⟩
    obtain ⟨u,r,l⟩:=hl i x v e1 e2 e3
    refine ⟨u,r,?_⟩
    rcases l with l | ⟨k,c,e,z⟩
    · exact .inl l
    · exact .inr ⟨k,c,e,cellK x c e _ z⟩
  · obtain ⟨v,z⟩:=I.cell x c e
    exact ⟨v,cellK x c e v z⟩
  · obtain ⟨m,⟨o,_,_,ho,_⟩,_⟩:=I.loc
    exact free _ o (fun z=>(hch _ z).2.1 rfl) ho I.free
  · obtain ⟨v,o,ho,hd⟩:=I.cell x c e
    exact free c o (fun z=>(hch c z).2.2.1 x c e rfl) ho (I.wL x c e)
  · obtain ⟨e,n,ne,nf,d⟩:=I.pin p hp
    have nch:p.1 ∉ ch:=fun z=>(hch p.1 z).2.2.2 p hp rfl
    exact ⟨keep p.1 p.2 ne nf nch e n,free p.1 p.2 nch e n,ne,nf,d⟩
theorem Inv.un {t':Nat} (I:Inv X pins σ H s) (u:Un X.fs [] H H' s.heap h') (hok:HOk X.prog X.w H' h'):Inv X pins σ H' { s with heap:=h',toks:=t' }:=by
  obtain ⟨m,⟨o,es,ep,ho,r⟩,_⟩:=id I.loc
  obtain ⟨sl,hL⟩:=u.any ho I.free (by simp)
  exact I.step (g':=s.gens) (d':=s.drawn) (ch:=[]) (fun _ z=>nomatch z) (fun b o _ hb _ e n=>u.keep b o e n hb (by simp)) (fun b o _ hb _ e n=>u.slot b o e n hb (by simp)) (fun b o _ e n=>u.free b o e n (by simp)) (fun b o _ e=>u.there b o e (by simp)) u.tups u.tG u.a4U (fun m' hm=>by
    obtain ⟨o',es',ep',ho',r'⟩:=hm
    rw [ho] at ho';cases ho'
    exact ⟨_,es',ep',hL,r'⟩) hok I.bare
theorem Inv.call {g':Array GenState} {t':Nat} {d':Drawn} {ch:List Addr} (I:Inv X pins σ H s) (u:Un (frs X.stack) ch H H' s.heap h') (hok:HOk X.prog X.w H' h') (hg:AllBare g')
    (hch:∀ b∈ch,(b∈X.ex∨X.s₀.heap.objs.size≤b)∧b≠X.env.locals∧(∀ x c,X.env.cells.lookup x=some c→c≠b)∧∀ p∈X.pn++pins,p.1≠b) :
    Inv X pins σ H' { s with heap:=h',gens:=g',drawn:=d',toks:=t' }:=by
  obtain ⟨m,⟨o,es,ep,ho,r⟩,_⟩:=id I.loc
  obtain ⟨sl,hL⟩:=u.any ho I.free fun z=>(hch _ z).2.1 rfl
  exact I.step (ch:=ch) hch (fun b o hL hb hc e n=>u.keep b o e n (fun z=>(List.mem_cons.mp (I.auJ b z)).elim hL hb) hc) (fun b o _ _ hc e n=>u.any e n hc) (fun b o hc e n=>u.free b o e n hc) (fun b o hc e=>u.there b o e hc) u.tups u.tG u.a4U (fun m' hm=>by
    obtain ⟨o',es',ep',ho',r'⟩:=hm
    rw [ho] at ho';cases ho'
    exact ⟨_,es',ep',hL,r'⟩) hok hg
theorem Inv.turned {t':Nat} {it:Addr} (I:Inv X pins σ H s) (k:∀ b o,b≠it→s.heap.get? b=some o→h'.get? b=some o) (hn:H it=none) (hL:it≠X.env.locals)
    (h1:it∈X.ex∨X.s₀.heap.objs.size≤it) (h2:∀ x c,X.env.cells.lookup x=some c→c≠it) (h3:∀ p∈X.pn++pins,p.1≠it):Inv X pins σ H { s with heap:=h',toks:=t' }:=by
  have nit:∀ b u,H b=some u→b≠it:=fun b u e z=>by rw [z,hn] at e;cases e
  refine I.step (g':=s.gens) (d':=s.drawn) (ch:=[it]) (fun b hb=>?_) (fun b o _ _ hc e _=>k b o (fun z=>hc (by simp [z])) e) (fun b o _ _ hc e _=>⟨o.slots,k b o (fun z=>hc (by simp [z])) e⟩) (fun _ _ _ _ n=>n)
    (fun b o hc e=>⟨o,k b o (fun z=>hc (by simp [z])) e⟩) (fun _ _ e=>e) (fun _ _ _ e=>e) (fun b ps e=>⟨#[],by rw [e];simp⟩) (fun m hm=>?_) (fun b u e=>?_) I.bare
  · have e:b=it:=by simpa using hb
    subst e
    exact ⟨h1,hL,h2,h3⟩
  · obtain ⟨o,es,ep,ho,r⟩:=hm
    exact ⟨o,es,ep,k _ o (Ne.symm hL) ho,r⟩
  · refine (I.hok b u e).stay (fun c v hc q=>k c v ?_ q) (fun _ q=>q) fun _ _ q=>q
    rcases hc with z | z
    · rw [z];exact nit b u e
    · exact nit c _ z
theorem Inv.tok (I:Inv X pins σ H s) (t:Nat):Inv X pins σ H { s with toks:=t }:=I.un (h':=s.heap) (t':=t) Un.refl I.hok
theorem Inv.kept {t':Nat} (I:Inv X pins σ H s) (k:∀ b u,s.heap.get? b=some u→h'.get? b=some u):Inv X pins σ H { s with heap:=h',toks:=t' }:=I.un (Un.kept k) (I.hok.kept k)
theorem Inv.laid {a:Addr} {o:HO} {t':Nat} (I:Inv X pins σ H s) (k:∀ b u,s.heap.get? b=some u→h'.get? b=some u) (hp:s.heap.objs.size≤a) (new:oJ X.prog X.w (upd H a o) h' a o) :
    Inv X pins σ (upd H a o) { s with heap:=h',toks:=t' }:=I.un (Un.laid k hp (I.hok.fresh hp)) (I.hok.laid k hp new)
theorem Inv.write {x e:Addr} {o:HO} {t':Nat} (I:Inv X pins σ H s) (mu:Mut (H x)) (he:e=x∨H e=some (.own x)) (k:∀ b u,b≠e→s.heap.get? b=some u→h'.get? b=some u) (heo:∃ u,h'.get? e=some u)
    (new:oJ X.prog X.w (upd H x o) h' x o):Inv X pins σ (upd H x o) { s with heap:=h',toks:=t' }:=I.un (Un.write mu he k heo) (I.hok.write mu he k heo new)
theorem Inv.weak {σ':List (Option V)} (I:Inv X pins σ H s) (hl:σ'.length=σ.length) (w:∀ (i:Nat) v,σ'[i]?=some (some v)→σ[i]?=some (some v)):Inv X pins σ' H s :=
  ⟨I.ok,I.os,I.bare,I.base,let ⟨m,hn,hl'⟩:=I.loc;⟨m,hn,fun i x v e1 e2 e3=>hl' i x v e1 (w i v e2) e3⟩,I.cell,I.free,I.wL,I.pin,I.hok,hl.trans I.len,I.hnd,I.tup⟩
theorem Inv.awK {acM:List (Addr×Obj)} (I:Inv X pins σ H s) (h:∀ p∈acM,s.heap.get? p.1=some p.2∧H p.1=none∧p.1≠X.env.locals∧p.1 ∉ X.fs∧∀ v,p.2.data ≠ .cell v):Inv X acM σ H s :=
  ⟨I.ok,I.os,I.bare,I.base,I.loc,I.cell,I.free,I.wL,fun p hp=>(List.mem_append.mp hp).elim (fun z=>I.pin p (List.mem_append_left _ z)) (h p),I.hok,I.len,I.hnd,I.tup⟩
theorem aiH {N:List Str} (hN:N.Nodup) {i j:Nat} {x:Str} (a:N[i]?=some x) (b:N[j]?=some x):i=j:=by
  obtain ⟨h1,e1⟩:=List.getElem?_eq_some_iff.mp a
  obtain ⟨h2,e2⟩:=List.getElem?_eq_some_iff.mp b
  exact (List.getElem_inj hN).mp (e1.trans e2.symm)
theorem ayF {M:Model} {A:Around} {E:Value→Shared→Prop} {i:Nat} {x:Str} {v:V} {u:Value} {Q:Unit→Shared→Prop} (I:Inv X pins σ H s) (hN:X.N.Nodup) (hi:X.N[i]?=some x) (hx:Loc X.env.scope x) (r:RelV v u)
    (h:∀ s',Inv X pins (σ.set i (some v)) H s'→(∃ a,Heap.SameBut a s.heap s'.heap∧(a=X.env.locals∨X.env.cells.lookup x=some a))→Q () s') (hf:X.fn x=true∨X.env.scope.names.lookup x=some .local:=by first | exact .inl rfl | exact .inr rfl | assumption):wpAny M A (storeName X.env x u) Q E s:=by
  obtain ⟨m,hn,hl⟩:=id I.loc
  have hcls:(X.env.scope.kind == .class || (X.env.scope.kind == .module&&X.env.locals != X.env.globals))=false:=by rw [I.ok.kind];rfl
  have hiσ:i < σ.length:=by rw [I.len];exact (List.getElem?_eq_some_iff.mp hi).1
  have cne:=I.cne
  have tracked:∀ {a:Addr} {h':Heap},(∃ o,s.heap.get? a=some o∧H a=none)→Heap.SameBut a s.heap h'→HOk X.prog X.w H h':=fun {a h'} ha hs b ob e=>by
    obtain ⟨_,_,hfree⟩:=ha
    refine (I.hok b ob e).stay (fun c w' hc q=>(hs.2 c ?_).trans q) (fun _ q=>q) fun _ _ q=>q
    rintro rfl
    rcases hc with rfl | hc
    · rw [hfree] at e;cases e
    · rw [hfree] at hc;cases hc
  rcases hx with hk | hk
  · refine wpAny_storeName_local hk hn (fun h' hn' hs=>?_) hcls
    obtain ⟨oL,_,_,hoL,_⟩:=id hn
    refine h _ ⟨I.ok,I.os,I.bare,⟨fun b o e n hb hx=>?_,fun b o e n hb hx=>?_,I.base.free,fun b o e hx=>?_,I.base.tups,I.base.tG,I.base.a4U⟩,⟨_,hn',fun j y v' e1 e2 e3=>?_⟩,fun y c e=>?_,I.free,I.wL,fun p hp=>?_,tracked ⟨oL,hoL,I.free⟩ hs,by simpa using I.len,I.hnd,I.tup⟩ ⟨_,hs,.inl rfl⟩
    · exact (hs.2 b (Nat.ne_of_lt (Nat.lt_of_lt_of_le (Heap.lt_size e) I.ok.above))).trans (I.base.keep b o e n hb hx)
    · obtain ⟨sl,e1⟩:=I.base.slot b o e n hb hx
      exact ⟨sl,(hs.2 b (Nat.ne_of_lt (Nat.lt_of_lt_of_le (Heap.lt_size e) I.ok.above))).trans e1⟩
    · obtain ⟨o',e1⟩:=I.base.there b o e hx
      exact ⟨o',(hs.2 b (Nat.ne_of_lt (Nat.lt_of_lt_of_le (Heap.lt_size e) I.ok.above))).trans e1⟩
    · by_cases hj:j=i
      · subst hj
        rw [hi] at e1;cases e1
        rw [List.getElem?_set_self hiσ] at e2
        cases e2
        exact ⟨u,r,.inl ⟨hk,by simp⟩⟩
      · rw [List.getElem?_set_ne (Ne.symm hj)] at e2
        obtain ⟨u',r',q⟩:=hl j y v' e1 e2 e3
        refine ⟨u',r',?_⟩
        rcases q with ⟨k,e⟩ | ⟨k,c,e,z⟩
        · refine .inl ⟨k,?_⟩
          have:y≠x:=fun e=>hj (aiH hN e1 (e ▸ hi))
          simp [this,e]
        · exact .inr ⟨k,c,e,z.sameBut hs (cne y c e)⟩
    · obtain ⟨w',z⟩:=I.cell y c e
      exact ⟨w',z.sameBut hs (cne y c e)⟩
    · obtain ⟨e,n,ne,nf,d⟩:=I.pin p hp
      exact ⟨(hs.2 p.1 ne).trans e,n,ne,nf,d⟩
  · have hfn:X.fn x=true:=by
      rcases hf with z | z
      · exact z
      · rw [z] at hk;cases hk
    obtain ⟨c,hc⟩:=I.ok.has x (.inl hk)
    obtain ⟨w',z⟩:=I.cell x c hc
    refine wpAny_storeName_cell I.ok.kind hk hc z (fun h' hc' hs=>?_)
    obtain ⟨oc,hoc,aWL⟩:=id z
    refine h { s with heap:=h' } ⟨I.ok,I.os,I.bare,⟨fun b o e n hb hx=>?_,fun b o e n hb hx=>?_,I.base.free,fun b o e hx=>?_,I.base.tups,I.base.tG,I.base.a4U⟩,⟨m,hn.sameBut hs (Ne.symm (cne x c hc)),fun j y v' e1 e2 e3=>?_⟩,fun y c' e=>?_,I.free,I.wL,fun p hp=>?_,tracked ⟨oc,hoc,I.wL x c hc⟩ hs,by simpa using I.len,I.hnd,I.tup⟩ ⟨c,hs,.inr hc⟩
    · exact (hs.2 b (Nat.ne_of_lt (Nat.lt_of_lt_of_le (Heap.lt_size e) (I.ok.cab x c hfn hc)))).trans (I.base.keep b o e n hb hx)
    · obtain ⟨sl,e1⟩:=I.base.slot b o e n hb hx
      exact ⟨sl,(hs.2 b (Nat.ne_of_lt (Nat.lt_of_lt_of_le (Heap.lt_size e) (I.ok.cab x c hfn hc)))).trans e1⟩
    · obtain ⟨o',e1⟩:=I.base.there b o e hx
      exact ⟨o',(hs.2 b (Nat.ne_of_lt (Nat.lt_of_lt_of_le (Heap.lt_size e) (I.ok.cab x c hfn hc)))).trans e1⟩
    · by_cases hj:j=i
      · subst hj
        rw [hi] at e1;cases e1
        rw [List.getElem?_set_self hiσ] at e2
        cases e2
        exact ⟨u,r,.inr ⟨.inl hk,c,hc,hc'⟩⟩
      · rw [List.getElem?_set_ne (Ne.symm hj)] at e2
        obtain ⟨u',r',q⟩:=hl j y v' e1 e2 e3
        refine ⟨u',r',?_⟩
        rcases q with q | ⟨k,c',e,z'⟩
        · exact .inl q
        · refine .inr ⟨k,c',e,z'.sameBut hs ?_⟩
          rintro rfl
          exact hj (aiH hN e1 (I.ok.inj _ _ _ e hc ▸ hi))
    · by_cases hcc:c'=c
      · subst hcc;exact ⟨_,hc'⟩
      · obtain ⟨w2,z2⟩:=I.cell y c' e
        exact ⟨w2,z2.sameBut hs hcc⟩
    · obtain ⟨e,n,ne,nf,d⟩:=I.pin p hp
      refine ⟨(hs.2 p.1 ?_).trans e,n,ne,nf,d⟩
      intro q
      rw [q,hoc] at e
      have q':oc=p.2:=Option.some.inj e
      exact d w' (by rw [← q'];exact aWL)
theorem aiI {M:Model} {A:Around} {E:Value→Shared→Prop} {i:Nat} {x:Str} {v:V} {u:Value} {Q:Unit→Shared→Prop} (I:Inv X pins σ H s) (hN:X.N.Nodup) (hi:X.N[i]?=some x) (hx:Loc X.env.scope x) (r:RelV v u)
    (h:∀ s',Inv X pins (σ.set i (some v)) H s'→Q () s') (hf:X.fn x=true∨X.env.scope.names.lookup x=some .local:=by first | exact .inl rfl | exact .inr rfl | assumption):wpAny M A (storeName X.env x u) Q E s :=
  ayF I hN hi hx r (fun s' I' _=>h s' I') hf
theorem Inv.call' {s':Shared} {ch:List Addr} (I:Inv X pins σ H s) (ho:s'.os=s.os) (u:Un (frs X.stack) ch H H' s.heap s'.heap) (hok:HOk X.prog X.w H' s'.heap) (hg:AllBare s'.gens)
    (hch:∀ b∈ch,(b∈X.ex∨X.s₀.heap.objs.size≤b)∧b≠X.env.locals∧(∀ x c,X.env.cells.lookup x=some c→c≠b)∧∀ p∈X.pn++pins,p.1≠b):Inv X pins σ H' s':=by
  obtain ⟨h',g',d',t',o'⟩:=s'
  have e:o'=s.os:=ho
  subst e
  exact I.call (g':=g') (t':=t') (d':=d') u hok hg hch
end
abbrev XK:=Value→Option Addr→Hp→Prop
abbrev St:=List (Option V)
abbrev VK:=V→Hp→Prop
abbrev TE:=St→Hp→VK→Prop
abbrev TT:=St→Hp→(Bool→Hp→Prop)→Prop
abbrev TA:=St→Hp→(List V→Hp→Prop)→Prop
structure Ends where
  nx:St→Hp→Prop
  rt:VK
  bk:St→Hp→Prop:=fun _ _=>False
  ct:St→Hp→Prop:=fun _ _=>False
abbrev TS:=Ends→St→Hp→Prop
def EP (X:Cx) (pins:List (Addr×Obj)) (σ:St) (Q:VK) (u:Value) (s':Shared):Prop:=∃ v H',Inv X pins σ H' s'∧RelV v u∧Q v H'
def TP (X:Cx) (pins:List (Addr×Obj)) (σ:St) (Q:Bool→Hp→Prop) (b:Bool) (s':Shared):Prop:=∃ H',Inv X pins σ H' s'∧Q b H'
def AP (X:Cx) (pins:List (Addr×Obj)) (σ:St) (Q:List V→Hp→Prop) (us:List Value) (s':Shared):Prop:=∃ vs H',Inv X pins σ H' s'∧Vals vs us∧Q vs H'
def SP (X:Cx) (pins:List (Addr×Obj)) (D:Ends) (f:Flow) (s':Shared):Prop :=
  match f with
  | .next=>∃ σ' H',Inv X pins σ' H' s'∧D.nx σ' H'
  | .brk=>∃ σ' H',Inv X pins σ' H' s'∧D.bk σ' H'
  | .cont=>∃ σ' H',Inv X pins σ' H' s'∧D.ct σ' H'
  | .ret u=>∃ v σ' H',Inv X pins σ' H' s'∧RelV v u∧D.rt v H'
def PE (X:Cx) (e:Expr) (t:TE):Prop :=
  ∀ (pins:List (Addr×Obj)) (s:Shared) (σ:St) (H:Hp) (Q:VK),Inv X pins σ H s→t σ H Q→wpAny (model X.prog X.w) X.A (eval e X.env) (EP X pins σ Q) X.xe s
def PT (X:Cx) (e:Expr) (t:TT):Prop :=
  ∀ (pins:List (Addr×Obj)) (s:Shared) (σ:St) (H:Hp) (Q:Bool→Hp→Prop),Inv X pins σ H s→t σ H Q→wpAny (model X.prog X.w) X.A (isTrue e X.env (eval e X.env)) (TP X pins σ Q) X.xe s
def PW (X:Cx) (e:Expr) (t:TT):Prop :=
  ∀ (whole:Sem Value) (pins:List (Addr×Obj)) (s:Shared) (σ:St) (H:Hp) (Q:Bool→Hp→Prop),Inv X pins σ H s→t σ H Q→wpAny (model X.prog X.w) X.A (isTrue e X.env whole) (TP X pins σ Q) X.xe s
theorem PW.pt {X:Cx} {e:Expr} {t:TT} (h:PW X e t):PT X e t:=h _
def PA (X:Cx) (es:List Expr) (t:TA):Prop :=
  ∀ (pos:Pos) (pins:List (Addr×Obj)) (s:Shared) (σ:St) (H:Hp) (Q:List V→Hp→Prop),Inv X pins σ H s→t σ H Q→wpAny (model X.prog X.w) X.A (spliced (backTo pos (starEach es X.env))) (AP X pins σ Q) X.xe s
def PS (X:Cx) (st:Stmt) (t:TS):Prop :=
  ∀ (pins:List (Addr×Obj)) (s:Shared) (σ:St) (H:Hp) (D:Ends),Inv X pins σ H s→t D σ H→wpAny (model X.prog X.w) X.A (exec st X.env) (SP X pins D) X.xe s
def PSs (X:Cx) (st:List Stmt) (t:TS):Prop :=
  ∀ (pins:List (Addr×Obj)) (s:Shared) (σ:St) (H:Hp) (D:Ends),Inv X pins σ H s→t D σ H→wpAny (model X.prog X.w) X.A (execs st X.env) (SP X pins D) X.xe s
theorem kY {α:Type} {t:Sem α} {Q Q':α→Shared→Prop} {M:Model} {A:Around} {E:Value→Shared→Prop} {s:Shared} (h:wpAny M A t Q E s) (hQ:∀ a s,Q a s→Q' a s):wpAny M A t Q' E s:=wpAny_mono h hQ fun _ _ x=>x
end L2
namespace L2
open PySem PySem.Spec PyProof.Rows
section
variable {X:Cx}
theorem bin {a b:Expr} {ta tb:TE} (ha:PE X a ta) (hb:PE X b tb) {pins:List (Addr×Obj)} {s:Shared} {σ:St} {H:Hp} {R:V→V→Hp→Prop} (I:Inv X pins σ H s) (h:ta σ H fun x H1=>tb σ H1 fun y H2=>R x y H2)
    {α:Type} {Q:α→Shared→Prop} {f:Value→Value→Sem α}
    (hf:∀ v u s2 x y H2,Inv X pins σ H2 s2→RelV x v→RelV y u→R x y H2→wpAny (model X.prog X.w) X.A (f v u) Q X.xe s2) :
    wpAny (model X.prog X.w) X.A (eval a X.env) (fun v s₁=>wpAny (model X.prog X.w) X.A (eval b X.env) (fun u s₂=>wpAny (model X.prog X.w) X.A (f v u) Q X.xe s₂) X.xe s₁) X.xe s:=by
  refine kY (ha pins s σ H _ I h) fun v s1 ⟨x,H1,I1,r1,q1⟩=>?_
  refine kY (hb pins s1 σ H1 _ I1 q1) fun u s2 ⟨y,H2,I2,r2,q2⟩=>?_
  exact hf v u s2 x y H2 I2 r1 r2 q2
def aRA (i:Nat):TE:=fun σ H Q=>∃ v,σ[i]?=some (some v)∧Q v H
def tC (v:V):TE:=fun _ H Q=>Q v H
theorem aLH {i:Nat} {x:Str} {pos:Pos} (hN:X.N[i]?=some x) (hv:Vis X.env.scope x) (hd:(x == ("__debug__" : Str))=false:=by decide) (hcd:(x == ("__classdict__" : Str))=false:=by decide):PE X (.Name x pos) (aRA i):=by
  intro pins s σ H Q I h
  obtain ⟨v,e,h⟩:=h
  obtain ⟨m,hn,hl⟩:=I.loc
  obtain ⟨u,r,l⟩:=hl i x v hN e hv
  have fin:EP X pins σ Q u s:=⟨v,H,I,r,h⟩
  rcases l with ⟨hk,hm⟩ | ⟨hk,c,hc,hcell⟩
  · exact wpAny_Name (wpAny_loadName_local I.ok.kind hk hn hm fin) hd
  · rcases hk with hk | hk
    · exact wpAny_Name (wpAny_loadName_cell I.ok.kind hk hc hcell fin) hd
    · exact wpAny_Name (wpAny_loadName_free I.ok.kind hk hc hcell fin hcd) hd
theorem aLI {i j pos}:PE X (.Constant (.int i) j pos) (tC (.int i)):=fun _ _ _ H _ I h=>wpAny_Constant_int ⟨.int i,H,I.tok _,⟨_,rfl⟩,h⟩
theorem aRB {b j pos}:PE X (.Constant (.bool b) j pos) (tC (.bl b)):=fun _ _ _ H _ I h=>Constant_bool ⟨.bl b,H,I,rfl,h⟩
theorem aLJ {j pos}:PE X (.Constant .none j pos) (tC .non):=fun _ _ _ H _ I h=>Constant_none ⟨.non,H,I,rfl,h⟩
theorem aLK {x j pos}:PE X (.Constant (.str x) j pos) (tC (.str x)):=fun _ _ _ H _ I h=>Calls.Constant_str ⟨.str x,H,I.tok _,⟨_,rfl⟩,h⟩
def Gl (X:Cx) (x:Str):Prop:=X.env.kindOf x=some .globalImplicit
theorem yU {E:Value→Shared→Prop} {pins:List (Addr×Obj)} {s:Shared} {σ:St} {H:Hp} {x:Str} {u:Value} {pos:Pos} {Q:Value→Shared→Prop} (I:Inv X pins σ H s) (hg:Gl X x) (hm:X.mg x=some u) (h:Q u s)
    (hd:(x == ("__debug__" : Str))=false:=by decide):wpAny (model X.prog X.w) X.A (eval (.Name x pos) X.env) Q E s :=
  Calls.Name_function_global I.ok.kind hg (Calls.loadGlobal_global (by rw [I.ok.glob];exact I.mod.glob.keeps I.bk) hm h) hd
theorem aeL {E:Value→Shared→Prop} {pins:List (Addr×Obj)} {s:Shared} {σ:St} {H:Hp} {x:Str} {u:Value} {pos:Pos} {Q:Value→Shared→Prop} (I:Inv X pins σ H s) (hg:Gl X x) (hm:X.mg x=none) (hv:bootBuiltins x=some u) (h:Q u s)
    (hn:x ≠ "__name__" := by decide) (hd:(x == ("__debug__" : Str))=false:=by decide):wpAny (model X.prog X.w) X.A (eval (.Name x pos) X.env) Q E s:=by
  obtain ⟨mb,h1,h2⟩:=I.mod.blt
  exact Calls.Name_function_global I.ok.kind hg (Calls.loadGlobal_builtin (by rw [I.ok.glob];exact I.mod.glob.keeps I.bk) hm (by rw [I.ok.blt];exact h1.keeps I.bk) ((h2 x hn).trans hv) h) hd
theorem aET {x:Str} {v:V} {u:Value} {pos:Pos} (hg:Gl X x) (hm:X.mg x=some u) (r:RelV v u) (hd:(x == ("__debug__" : Str))=false:=by decide):PE X (.Name x pos) (tC v) :=
  fun _ _ _ H _ I h=>yU I hg hm ⟨v,H,I,r,h⟩ hd
theorem aEU {x:Str} {v:V} {u:Value} {pos:Pos} (hg:Gl X x) (hm:X.mg x=none) (hv:bootBuiltins x=some u) (r:RelV v u) (hn:x ≠ "__name__" := by decide) (hd:(x == ("__debug__" : Str))=false:=by decide):PE X (.Name x pos) (tC v) :=
  fun _ _ _ H _ I h=>aeL I hg hm hv ⟨v,H,I,r,h⟩ hn hd
variable {a b:Expr} {ta tb:TE} {pos:Pos}
def PC (X:Cx) (op:CmpOp) (a b:Expr) (t:TE):Prop :=
  ∀ (pins:List (Addr×Obj)) (s:Shared) (σ:St) (H:Hp) (Q:VK),Inv X pins σ H s→t σ H Q →
    wpAny (model X.prog X.w) X.A (eval a X.env) (fun v s₁=>wpAny (model X.prog X.w) X.A (eval b X.env) (fun u s₂=>wpAny (model X.prog X.w) X.A (compareOp op v u) (EP X pins σ Q) X.xe s₂) X.xe s₁) X.xe s
theorem aiJ (b:Expr) {op:CmpOp} (h:op ≠ .In) (h2:op ≠ .NotIn):behindInMarks op b=false:=by
  have e1:(op == CmpOp.In)=false:=by cases op <;> first | rfl | exact absurd rfl h
  have e2:(op == CmpOp.NotIn)=false:=by cases op <;> first | rfl | exact absurd rfl h2
  cases b <;> simp [behindInMarks,e1,e2]
def tB (t:TE):TT:=fun σ H Q=>t σ H fun x H1=>∃ c,x = .bl c∧Q c H1
theorem aWM {op:CmpOp} {t:TE} (h:PC X op a b t) (h1:behindInMarks op b=false:=by first | exact aiJ _ (by decide) (by decide) | rfl):PT X (.Compare a [op] [b] pos) (tB t):=by
  intro pins s σ H Q I hw
  refine wpAny_isTrue_Compare1 (kY (h pins s σ H _ I hw) fun v s1 h1=>kY h1 fun u s2 h2=>kY h2 fun c s3 ⟨x,H1,I1,r1,q1⟩=>?_) h1
  obtain ⟨d,rfl,q⟩:=q1
  cases r1
  exact wpAny_truthy_bool ⟨H1,I1,q⟩
theorem aLL {e:Expr} {t:TE} (h:PE X e t) (he:∀ whole,isTrue e X.env whole=(do let v ← whole;standAt e.pos;holding [v] (truthy v)):=by intro _;rfl):PT X e (tB t):=by
  intro pins s σ H Q I hw
  refine isTrue_plain (kY (h pins s σ H _ I hw) fun v s1 ⟨x,H1,I1,r1,q1⟩=>?_) (he _)
  obtain ⟨d,rfl,q⟩:=q1
  cases r1
  exact wpAny_truthy_bool ⟨H1,I1,q⟩
variable {tA tB':TT} {rest:List Expr}
def aRC (t u:TT):TT:=fun σ H Q=>t σ H fun c H1=>if c=true then u σ H1 Q else Q false H1
def tOr (t u:TT):TT:=fun σ H Q=>t σ H fun c H1=>if c=true then Q true H1 else u σ H1 Q
def aWN (t:TT):TT:=fun σ H Q=>t σ H fun c H1=>Q (!c) H1
theorem aEV (ha:PT X a tA):PW X (.BoolOp .And [a] pos) tA:=by
  intro wh pins s σ H Q I h
  refine isTrue_and (kY (ha pins s σ H Q I h) fun c s1 e=>?_)
  cases c with
  | true=>exact isTrue_and_nil e
  | false=>exact e
theorem aLM (ha:PT X a tA):PW X (.BoolOp .Or [a] pos) tA:=by
  intro wh pins s σ H Q I h
  refine isTrue_or (kY (ha pins s σ H Q I h) fun c s1 e=>?_)
  cases c with
  | false=>exact isTrue_or_nil e
  | true=>exact e
theorem aLN (ha:PT X a tA) (hb:PW X (.BoolOp .And (b :: rest) pos) tB'):PW X (.BoolOp .And (a :: b :: rest) pos) (aRC tA tB'):=by
  intro wh pins s σ H Q I h
  refine isTrue_and (kY (ha pins s σ H _ I h) fun c s1 ⟨H1,I1,q1⟩=>?_)
  cases c with
  | true=>exact hb wh pins s1 σ H1 Q I1 q1
  | false=>exact ⟨H1,I1,q1⟩
theorem aRD (ha:PT X a tA) (hb:PW X (.BoolOp .Or (b :: rest) pos) tB'):PW X (.BoolOp .Or (a :: b :: rest) pos) (tOr tA tB'):=by
  intro wh pins s σ H Q I h
  refine isTrue_or (kY (ha pins s σ H _ I h) fun c s1 ⟨H1,I1,q1⟩=>?_)
  cases c with
  | true=>exact ⟨H1,I1,q1⟩
  | false=>exact hb wh pins s1 σ H1 Q I1 q1
theorem aLO (ha:PT X a tA):PT X (.UnaryOp .Not a pos) (aWN tA):=by
  intro pins s σ H Q I h
  exact isTrue_not (ha pins s σ H (fun c H1=>Q (!c) H1) I h)
def aRE (ta tb:TE):TE:=fun σ H Q=>ta σ H fun x H1=>∃ c,x = .bl c∧if c=true then tb σ H1 Q else Q (.bl false) H1
def aWO (ta tb:TE):TE:=fun σ H Q=>ta σ H fun x H1=>∃ c,x = .bl c∧if c=true then Q (.bl true) H1 else tb σ H1 Q
def aRF (ta:TE):TE:=fun σ H Q=>ta σ H fun x H1=>∃ c,x = .bl c∧Q (.bl (!c)) H1
theorem aLP {op} {t:TE} (h:PE X a t):PE X (.BoolOp op [a] pos) t:=fun pins s σ H Q I hw=>BoolOp_one (h pins s σ H Q I hw)
theorem aLQ (ha:PE X a ta) (hb:PE X (.BoolOp .And (b :: rest) pos) tb):PE X (.BoolOp .And (a :: b :: rest) pos) (aRE ta tb):=by
  intro pins s σ H Q I h
  refine BoolOp_and (kY (ha pins s σ H _ I h) fun v s1 ⟨x,H1,I1,r1,q1⟩=>?_)
  obtain ⟨c,rfl,q1⟩:=q1
  cases r1
  refine wpAny_truthy_bool ?_
  cases c with
  | true=>exact hb pins s1 σ H1 Q I1 q1
  | false=>exact ⟨.bl false,H1,I1,rfl,q1⟩
theorem aRG (ha:PE X a ta) (hb:PE X (.BoolOp .Or (b :: rest) pos) tb):PE X (.BoolOp .Or (a :: b :: rest) pos) (aWO ta tb):=by
  intro pins s σ H Q I h
  refine BoolOp_or (kY (ha pins s σ H _ I h) fun v s1 ⟨x,H1,I1,r1,q1⟩=>?_)
  obtain ⟨c,rfl,q1⟩:=q1
  cases r1
  refine wpAny_truthy_bool ?_
  cases c with
  | false=>exact hb pins s1 σ H1 Q I1 q1
  | true=>exact ⟨.bl true,H1,I1,rfl,q1⟩
theorem aLR (ha:PE X a ta):PE X (.UnaryOp .Not a pos) (aRF ta):=by
  intro pins s σ H Q I h
  refine UnaryOp_ (kY (ha pins s σ H _ I h) fun v s1 ⟨x,H1,I1,r1,q1⟩=>?_)
  obtain ⟨c,rfl,q1⟩:=q1
  cases r1
  exact not_of (wpAny_truthy_bool ⟨.bl (!c),H1,I1,rfl,q1⟩)
end
end L2
namespace L2
open PySem PySem.Spec PyProof.Rows
def SqL (K:PySem.W.Frag) (H:Hp) (a:Addr) (xs:List V):Prop :=
  Rd H a (.lst xs) ∨
    ∃ (o:Obj) (its:Array Value) (n:Nat),K.lookup a=some o∧o.cls = .type "list" ∧ o.dict=none∧o.data = .seq its n∧its.size≤sizeLine∧Vals xs its.toList
def SqT (K:PySem.W.Frag) (H:Hp) (a:Addr) (xs:List V):Prop :=
  Rd H a (.tup xs) ∨
    ∃ (o:Obj) (its:Array Value) (n:Nat),K.lookup a=some o∧o.cls = .type "tuple" ∧ o.data = .seq its n∧its.size≤sizeLine∧Vals xs its.toList
def aWP:Value→Option V
  | .none=>some .non
  | .bool b=>some (.bl b)
  | .int i _=>some (.int i)
  | .str x _=>some (.str x)
  | .bytes b _=>some (.byt b)
  | .float b _=>some (.flt b)
  | .ref a=>some (.ref a)
  | .type n=>some (.ty n)
  | _=>none
theorem RelV.abs {x:V} {u:Value} (r:RelV x u):aWP u=some x:=by
  cases x with
  | non=>cases r;rfl
  | bl _=>cases r;rfl
  | int _=>obtain ⟨t,rfl⟩:=r;rfl
  | str _=>obtain ⟨t,rfl⟩:=r;rfl
  | byt _=>obtain ⟨t,rfl⟩:=r;rfl
  | flt _=>obtain ⟨t,rfl⟩:=r;rfl
  | ref _=>cases r;rfl
  | ty _=>cases r;rfl
theorem RelV.inj {x y:V} {u:Value} (r:RelV x u) (q:RelV y u):x=y:=Option.some.inj (r.abs.symm.trans q.abs)
theorem Vals.inj:∀ {xs ys:List V} {us:List Value},Vals xs us→Vals ys us→xs=ys
  | _,_,_,.nil,.nil=>rfl
  | _,_,_,.cons r t,.cons r' t'=>by rw [r.inj r',Vals.inj t t']
section
variable {X:Cx} {pins:List (Addr×Obj)} {σ:St} {H:Hp} {s:Shared} {a:Addr} {xs ys:List V}
theorem SqL.of {K:PySem.W.Frag} (h:H a=some (.lst xs)):SqL K H a xs := .inl (.inl h)
theorem SqT.of {K:PySem.W.Frag} (h:H a=some (.tup xs)):SqT K H a xs := .inl (.inl h)
theorem Inv.list (I:Inv X pins σ H s) (h:SqL X.K H a xs):∃ its:List Value,Vals xs its∧PlainL s.heap a its.toArray∧xs.length≤sizeLine:=by
  rcases h with h | ⟨o,its,n,hk,hc,hd,hs,hz,r⟩
  · obtain ⟨z,its,n,r,e⟩:=h.ok I.hok
    exact ⟨its,r,⟨_,n,e,rfl,rfl,rfl⟩,z⟩
  · refine ⟨its.toList,r,⟨o,n,I.kIn a o hk,hc,hd,by simpa using hs⟩,?_⟩
    have e:=r.length
    simp only [Array.length_toList] at e
    omega
theorem Inv.tuple (I:Inv X pins σ H s) (h:SqT X.K H a xs):∃ its:List Value,Vals xs its∧IsTup s.heap a its.toArray∧xs.length≤sizeLine:=by
  rcases h with h | ⟨o,its,n,hk,hc,hs,hz,r⟩
  · obtain ⟨z,its,r,p⟩:=h.ok I.hok
    exact ⟨its,r,p,z⟩
  · refine ⟨its.toList,r,⟨o,I.kIn a o hk,hc,n,by simpa using hs⟩,?_⟩
    have e:=r.length
    simp only [Array.length_toList] at e
    omega
theorem Inv.aAL (I:Inv X pins σ H s) (h:SqL X.K H a xs) (h':SqL X.K H a ys):xs=ys:=by
  obtain ⟨its,r,⟨o,n,e,_,_,d⟩,_⟩:=I.list h
  obtain ⟨its',r',⟨o',n',e',_,_,d'⟩,_⟩:=I.list h'
  rw [e] at e';cases e'
  rw [d] at d'
  injection d' with d1 _
  have:its=its':=by simpa using congrArg Array.toList d1
  subst this
  exact r.inj r'
theorem Inv.amB (I:Inv X pins σ H s) (h:SqT X.K H a xs) (h':SqT X.K H a ys):xs=ys:=by
  obtain ⟨its,r,⟨o,e,_,n,d⟩,_⟩:=I.tuple h
  obtain ⟨its',r',⟨o',e',_,n',d'⟩,_⟩:=I.tuple h'
  rw [e] at e';cases e'
  rw [d] at d'
  injection d' with d1 _
  have:its=its':=by simpa using congrArg Array.toList d1
  subst this
  exact r.inj r'
end
abbrev Cx.wish (X:Cx) (E:Value→Shared→Prop):Cx:={ X with xe:=E }
abbrev Cx.nox (X:Cx):Cx:=X.wish fun _ _=>False
theorem Cx.Ok.wish {X:Cx} (ok:X.Ok) (E:Value→Shared→Prop):(X.wish E).Ok :=
  ⟨ok.mod,ok.kind,ok.glob,ok.blt,ok.above,ok.inj,ok.has,ok.cab,ok.hd,ok.frames,ok.stk,ok.exf,ok.bs,ok.bsz,ok.alE,ok.anT,ok.a4V,ok.frf⟩
theorem Cx.Ok.a2L {X:Cx} {E:Value→Shared→Prop} (ok:(X.wish E).Ok):X.Ok :=
  ⟨ok.mod,ok.kind,ok.glob,ok.blt,ok.above,ok.inj,ok.has,ok.cab,ok.hd,ok.frames,ok.stk,ok.exf,ok.bs,ok.bsz,ok.alE,ok.anT,ok.a4V,ok.frf⟩
section
variable {X:Cx} {pins:List (Addr×Obj)} {σ:St} {H:Hp} {s:Shared} {E:Value→Shared→Prop}
theorem Inv.wish (I:Inv X pins σ H s) (E:Value→Shared→Prop):Inv (X.wish E) pins σ H s:=⟨I.ok.wish E,I.os,I.bare,I.base,I.loc,I.cell,I.free,I.wL,I.pin,I.hok,I.len,I.hnd,I.tup⟩
theorem Inv.a2L (I:Inv (X.wish E) pins σ H s):Inv X pins σ H s:=⟨I.ok.a2L,I.os,I.bare,I.base,I.loc,I.cell,I.free,I.wL,I.pin,I.hok,I.len,I.hnd,I.tup⟩
theorem SP.a2L {D:Ends} {f:Flow} {s':Shared} (h:SP (X.wish E) pins D f s'):SP X pins D f s':=by
  cases f with
  | next=>obtain ⟨σ',H',I,q⟩:=h;exact ⟨σ',H',I.a2L,q⟩
  | brk=>obtain ⟨σ',H',I,q⟩:=h;exact ⟨σ',H',I.a2L,q⟩
  | cont=>obtain ⟨σ',H',I,q⟩:=h;exact ⟨σ',H',I.a2L,q⟩
  | ret u=>obtain ⟨v,σ',H',I,r,q⟩:=h;exact ⟨v,σ',H',I.a2L,r,q⟩
theorem PE.nox {e:Expr} {t:TE} (h:PE X.nox e t):PE X e t:=fun pins s σ H Q I hw =>
  wpAny_mono (h pins s σ H Q (I.wish _) hw) (fun _ _ ⟨v,H',I',r,q⟩=>⟨v,H',I'.a2L,r,q⟩) fun _ _ z=>False.elim z
theorem PT.nox {e:Expr} {t:TT} (h:PT X.nox e t):PT X e t:=fun pins s σ H Q I hw =>
  wpAny_mono (h pins s σ H Q (I.wish _) hw) (fun _ _ ⟨H',I',q⟩=>⟨H',I'.a2L,q⟩) fun _ _ z=>False.elim z
theorem PSs.nox {st:List Stmt} {t:TS} (h:PSs X.nox st t):PSs X st t:=fun pins s σ H D I hw =>
  wpAny_mono (h pins s σ H D (I.wish _) hw) (fun _ _ q=>q.a2L) fun _ _ z=>False.elim z
end
section
variable {X:Cx} {st:Stmt} {rest:List Stmt} {t u:TS} {e:Expr} {te:TE} {pos:Pos}
def aJW:TS:=fun D σ H=>D.nx σ H
def aRH (t u:TS):TS:=fun D σ H=>t { D with nx:=u D } σ H
theorem aEW:PSs X [] aJW:=fun _ _ σ H _ I h=>wpAny_execs_nil ⟨σ,H,I,h⟩
theorem aAM (h1:PS X st t) (h2:PSs X rest u):PSs X (st :: rest) (aRH t u):=by
  intro pins s σ H D I h
  refine wpAny_execs_cons (kY (h1 pins s σ H { D with nx:=u D } I h) fun f s1 q=>?_)
  cases f with
  | next =>
    obtain ⟨σ',H',I',q⟩:=q
    exact h2 pins s1 σ' H' D I' q
  | ret v=>exact q
  | brk=>exact q
  | cont=>exact q
theorem aEX (h1:PS X st t):PSs X [st] t:=by
  intro pins s σ H D I h
  refine wpAny_execs_cons (kY (h1 pins s σ H D I h) fun f s1 q=>?_)
  cases f with
  | next=>exact wpAny_execs_nil q
  | ret v=>exact q
  | brk=>exact q
  | cont=>exact q
theorem aEY:PS X (.Pass pos) aJW:=fun _ _ σ H _ I h=>wpAny_Pass ⟨σ,H,I,h⟩
theorem Inv.quiet {pins:List (Addr×Obj)} {σ:St} {H:Hp} {s:Shared} (I:Inv X pins σ H s):interactive X.env=false:=by simp [interactive,I.ok.kind]
def aRI (te:TE):TS:=fun D σ H=>te σ H fun _ H1=>D.nx σ H1
theorem aEZ (he:PE X e te) (hs:swapsWith e none pos.line X.env=pure false:=by rfl):PS X (.Expr e pos) (aRI te):=by
  intro pins s σ H D I h
  exact wpAny_Expr_any (kY (he pins s σ H _ I h) fun v s1 ⟨x,H1,I1,r1,q1⟩=>⟨σ,H1,I1,q1⟩) I.quiet hs
def aWQ (te:TE):TS:=fun D σ H=>te σ H D.rt
theorem aLS (he:PE X e te):PS X (.Return (some e) pos) (aWQ te):=by
  intro pins s σ H D I h
  exact wpAny_Return_some (kY (he pins s σ H _ I h) fun v s1 ⟨x,H1,I1,r1,q1⟩=>⟨x,σ,H1,I1,r1,q1⟩)
def aWR (c:TT) (t u:TS):TS:=fun D σ H=>c σ H fun b H1=>if b=true then t D σ H1 else u D σ H1
theorem aRJ {c:Expr} {a b:List Stmt} {tc:TT} (hc:PT X c tc) (ha:PSs X a t) (hb:PSs X b u):PS X (.If c a b pos) (aWR tc t u):=by
  intro pins s σ H D I h
  refine wpAny_If (kY (hc pins s σ H _ I h) fun d s1 ⟨H1,I1,q1⟩=>?_)
  cases d with
  | true=>exact ha pins s1 σ H1 D I1 q1
  | false=>exact hb pins s1 σ H1 D I1 q1
end
abbrev TG:=V→St→Hp→(St→Hp→Prop)→Prop
abbrev TGs:=List V→St→Hp→(St→Hp→Prop)→Prop
def PG (X:Cx) (target:Expr) (t:TG):Prop :=
  ∀ (pins:List (Addr×Obj)) (s:Shared) (σ:St) (H:Hp) (v:V) (u:Value) (Q:St→Hp→Prop),Inv X pins σ H s→RelV v u→t v σ H Q →
    wpAny (model X.prog X.w) X.A (assign target X.env u) (fun _ s'=>∃ σ' H',Inv X pins σ' H' s'∧Q σ' H') X.xe s
def PGs (X:Cx) (ts:List Expr) (t:TGs):Prop :=
  ∀ (pins:List (Addr×Obj)) (s:Shared) (σ:St) (H:Hp) (vs:List V) (us:List Value) (Q:St→Hp→Prop),Inv X pins σ H s→Vals vs us→t vs σ H Q →
    wpAny (model X.prog X.w) X.A (assignInOrder ((assignEach ts X.env).map (·.2)) us) (fun _ s'=>∃ σ' H',Inv X pins σ' H' s'∧Q σ' H') X.xe s
section
variable {X:Cx} {pos:Pos}
def awL (i:Nat):TG:=fun v σ H Q=>Q (σ.set i (some v)) H
theorem anW {i:Nat} {x:Str} (hN:X.N.Nodup) (hi:X.N[i]?=some x) (hx:Loc X.env.scope x) (hf:X.fn x=true∨X.env.scope.names.lookup x=some .local:=by first | exact .inl rfl | exact .inr rfl | assumption):PG X (.Name x pos) (awL i):=by
  intro pins s σ H v u Q I r h
  exact wpAny_assign_Name (aiI I hN hi hx r (fun s' I'=>⟨_,H,I',h⟩) hf)
def aRL:TGs:=fun vs σ H Q=>vs=[]∧Q σ H
def aJY (t:TG) (u:TGs):TGs:=fun vs σ H Q=>∃ v r,vs=v :: r∧t v σ H fun σ' H'=>u r σ' H' Q
theorem aF0:PGs X [] aRL:=by
  intro pins s σ H vs us Q I r h
  obtain ⟨e,h⟩:=h
  subst e
  cases r
  exact assignInOrder_nil ⟨σ,H,I,h⟩
theorem aAN {e:Expr} {es:List Expr} {t:TG} {u:TGs} (h1:PG X e t) (h2:PGs X es u)
    (hs:(assignEach (e :: es) X.env).map (·.2)=assign e X.env :: (assignEach es X.env).map (·.2):=by rfl):PGs X (e :: es) (aJY t u):=by
  intro pins s σ H vs us Q I r h
  obtain ⟨v,vr,e1,h⟩:=h
  subst e1
  cases r with
  | cons r rr =>
    rw [hs]
    refine assignInOrder_cons (kY (h1 pins s σ H _ _ _ I r h) fun _ s1 ⟨σ1,H1,I1,q1⟩=>?_)
    exact h2 pins s1 σ1 H1 _ _ Q I1 rr q1
def aWS (K:PySem.W.Frag) (n:Nat) (t:TGs):TG:=fun v σ H Q=>∃ a xs,v = .ref a∧SqT K H a xs∧xs.length=n∧t xs σ H Q
theorem aLT {es:List Expr} {k:Nat} {t:TGs} {n:Nat} (hc:X.calm=true) (h:PGs X es t)
    (hn:(assignEach es X.env).length=n:=by rfl) (hst:(assignEach es X.env).findIdx? (·.1)=none:=by rfl):PG X (.Tuple es k pos) (aWS X.K n t):=by
  intro pins s σ H v u Q I r hw
  obtain ⟨a,xs,e1,hq,hl,hw⟩:=hw
  subst e1
  cases r
  obtain ⟨its,rv,ht,hz⟩:=I.tuple hq
  refine assign_Tuple_tuple (I.ok.hd hc) ht (by simp [hn,← hl,rv.length]) hst fun h' hx=>?_
  have I1:Inv X pins σ H { s with heap:=h' }:=I.kept (t':=s.toks) fun b o e=>hx b o (Nat.ne_of_lt (Heap.lt_size e)) e
  exact h pins _ σ H xs _ Q I1 (by simpa using rv) hw
def aWT (te:TE) (g:TG):TS:=fun D σ H=>te σ H fun x H1=>g x σ H1 D.nx
theorem aLU {i:Nat} {x:Str} {e:Expr} {te:TE} {pos':Pos} (hN:X.N.Nodup) (hi:X.N[i]?=some x) (hx:Loc X.env.scope x) (he:PE X e te) (hs:swapsWith e (some (.Name x pos')) pos.line X.env=pure false:=by rfl) (hf:X.fn x=true∨X.env.scope.names.lookup x=some .local:=by first | exact .inl rfl | exact .inr rfl | assumption) :
    PS X (.Assign [.Name x pos'] e pos) (aWT te (awL i)):=by
  intro pins s σ H D I h
  refine wpAny_Assign_Name (kY (he pins s σ H _ I h) fun v s1 ⟨y,H1,I1,r1,q1⟩=>?_) hs
  exact aiI I1 hN hi hx r1 (fun s2 I2=>⟨_,H1,I2,q1⟩) hf
end
section
variable {X:Cx} {pos:Pos}
def aLV (c:TT) (tb:TS):TS:=fun D σ H=>∃ W:Nat→St→Hp→Prop,(∃ m,W m σ H)∧∀ m σ H,W m σ H →
  c σ H fun b H1=>if b=true then ∃ N:St→Hp→Prop,(∀ σ' H',N σ' H'→∃ m',m' < m∧W m' σ' H')∧tb { D with nx:=N,ct:=N,bk:=D.nx } σ H1 else D.nx σ H1
theorem aAO {c:Expr} {body:List Stmt} {tc:TT} {tb:TS} (hp:PassesOwn (model X.prog X.w) X.A X.env X.xe) (hc:PT X c tc) (hb:PSs X body tb):PS X (.While c body [] pos) (aLV tc tb):=by
  intro pins s σ H D I h
  obtain ⟨W,⟨m0,w0⟩,turn⟩:=h
  refine wpAny_While (codeAny_whileLoop (fun n s'=>∃ σ' H',Inv X pins σ' H' s'∧W n σ' H') ?_ m0 ⟨σ,H,I,w0⟩)
  rintro n s1 ⟨σ1,H1,I1,w1⟩
  refine wpAny_passesOwn hp (kY (hc pins s1 σ1 H1 _ I1 (turn n σ1 H1 w1)) fun b s2 ⟨H2,I2,q2⟩=>?_)
  cases b with
  | true =>
    obtain ⟨N,hN,q2⟩:=q2
    rw [if_pos rfl]
    refine wpAny_passesOwn hp (kY (hb pins s2 σ1 H2 _ I2 q2) fun f s3 q3=>?_)
    cases f with
    | next =>
      obtain ⟨σ3,H3,I3,n3⟩:=q3
      obtain ⟨m',hm,w3⟩:=hN σ3 H3 n3
      exact ⟨m',hm,σ3,H3,I3,w3⟩
    | cont =>
      obtain ⟨σ3,H3,I3,n3⟩:=q3
      obtain ⟨m',hm,w3⟩:=hN σ3 H3 n3
      exact ⟨m',hm,σ3,H3,I3,w3⟩
    | brk=>exact q3
    | ret v=>exact q3
  | false =>
    rw [if_neg Bool.false_ne_true]
    exact wpAny_execs_nil ⟨σ1,H2,I2,q2⟩
end
structure It where
  go:Nat→Hp→Prop
  yld:Nat→Hp→V→Hp→Prop
  stop:Nat→Hp→Prop
def ahH (X:Cx) (pins:List (Addr×Obj)) (H:Hp) (b:Addr):Prop :=
  H b=none∧b≠X.env.locals∧b ∉ X.fs∧(b∈X.ex∨X.s₀.heap.objs.size≤b)∧(∀ x c,X.env.cells.lookup x=some c→c≠b)∧∀ p∈X.pn++pins,p.1≠b
theorem Inv.aqQ {X:Cx} {pins:List (Addr×Obj)} {σ:St} {H H':Hp} {s:Shared} {b:Addr} (I:Inv X pins σ H s) (hb:s.heap.objs.size≤b) (hn:H' b=none):ahH X pins H' b:=by
  refine ⟨hn,Nat.ne_of_gt (Nat.lt_of_lt_of_le I.lt hb),I.aWK hb,.inr (Nat.le_trans I.sz hb),fun x c e z=>?_,fun p hp z=>?_⟩
  · obtain ⟨v,q⟩:=I.cell x c e
    exact absurd (Nat.lt_of_lt_of_le q.lt (by rw [z];exact hb)) (Nat.lt_irrefl _)
  · exact absurd (Nat.lt_of_lt_of_le (Heap.lt_size (I.pin p hp).1) (by rw [z];exact hb)) (Nat.lt_irrefl _)
structure Turn (cm:Bool) (tl:List (Addr×List V)) (P:Program) (w:World) (K:PySem.W.Frag) (tg:Expr) (J:It) (fp:List Addr) (it:Addr) (tn:Nat→Heap→Prop):Prop where
  mem:it∈fp
  obj:∀ i h,tn i h→∀ b∈fp,∃ o,h.get? b=some o∧∀ v,o.data ≠ .cell v
  keep:∀ i h h',tn i h→(∀ b∈fp,∀ o,h.get? b=some o→h'.get? b=some o)→tn i h'
  item:∀ (X:Cx),X.prog=P→X.w=w→X.K=K→(cm=true→X.calm=true)→(∀ p∈tl,p∈X.tp)→∀ (i:Nat) (pins:List (Addr×Obj)) (s:Shared) (σ:St) (H:Hp) (E:Value→Shared→Prop),Inv X pins σ H s→(∀ b∈fp,ahH X pins H b)→tn i s.heap→J.go i H →
    wpAny (model P w) X.A (pyNext (.ref it)) (fun r s1=>∃ u,r=some u ∧
      wpAny (model P w) X.A (letOwnedTupleGo tg (.ref it) u) (fun _ s2=>∃ x H',Inv X pins σ H' s2∧RelV x u∧J.yld i H x H'∧tn (i+1) s2.heap∧∀ b∈fp,H' b=none) E s1) E s
  done:∀ (X:Cx),X.prog=P→X.w=w→X.K=K→(cm=true→X.calm=true)→(∀ p∈tl,p∈X.tp)→∀ (i:Nat) (pins:List (Addr×Obj)) (s:Shared) (σ:St) (H:Hp) (E:Value→Shared→Prop),Inv X pins σ H s→(∀ b∈fp,ahH X pins H b)→tn i s.heap→J.stop i H →
    wpAny (model P w) X.A (pyNext (.ref it)) (fun r s1=>r=none∧Inv X pins σ H s1) E s
  self:∀ (A:Around) (i:Nat) (s:Shared) (Q:Value→Shared→Prop) (E:Value→Shared→Prop),tn i s.heap→Q (.ref it) s→wpAny (model P w) A (pyIter (.ref it)) Q E s
abbrev TI:=St→Hp→(It→Hp→Prop)→Prop
def PIE (X:Cx) (pins:List (Addr×Obj)) (σ:St) (tg:Expr) (R:It→Hp→Prop) (itv:Value) (s2:Shared):Prop :=
  ∃ (it:Addr) (fp:List Addr) (tn:Nat→Heap→Prop) (J:It) (H':Hp),itv = .ref it∧Inv X pins σ H' s2∧Turn X.calm X.tp X.prog X.w X.K tg J fp it tn∧tn 0 s2.heap∧(∀ b∈fp,ahH X pins H' b)∧R J H'
def PI (X:Cx) (tg iter:Expr) (wi:TI):Prop :=
  ∀ (pins:List (Addr×Obj)) (s:Shared) (σ:St) (H:Hp) (R:It→Hp→Prop),Inv X pins σ H s→wi σ H R →
    wpAny (model X.prog X.w) X.A (eval iter X.env) (fun v s1=>wpAny (model X.prog X.w) X.A (pyIter v) (PIE X pins σ tg R) X.xe s1) X.xe s
theorem aqR {M:Model} {A:Around} {E:Value→Shared→Prop} {s:Shared} {tg:Expr} {it:Addr} {u:Value} {o:Obj} {n:String} {vs:Array Value} {Q:Unit→Shared→Prop} (ho:s.heap.get? it=some o) (hc:o.cls = .type n) (hd:o.data = .fields vs)
    (hn:["enumerate", "zip", "dict_itemiterator", "dict_reverseitemiterator", "odict_iterator", "itertools.zip_longest", "itertools.pairwise"].contains n=false) (hQ:Q () s):wpAny M A (letOwnedTupleGo tg (.ref it) u) Q E s:=by
  unfold letOwnedTupleGo
  cases tg <;> first
    | exact wpAny_pure hQ
    | (cases u <;> first
        | exact wpAny_pure hQ
        | (refine wpAny_bind (wpAny_load ho ?_)
           rw [hc,hd]
           show wpAny M A (if (["enumerate", "zip", "dict_itemiterator", "dict_reverseitemiterator", "odict_iterator", "itertools.zip_longest", "itertools.pairwise"].contains n&&vs[0]? == some (rawInt _))=true then _ else _) Q E s
           rw [if_neg (by intro h;rw [hn,Bool.false_and] at h;cases h)]
           exact wpAny_pure hQ))
def Itl (K:PySem.W.Frag) (a:Addr):It :=
  ⟨fun i H=>∃ xs x,SqL K H a xs∧xs[i]?=some x,fun i H x H'=>H'=H∧∀ xs,SqL K H a xs→xs[i]?=some x,fun i H=>∃ xs,SqL K H a xs∧xs.length≤i⟩
def Itt (K:PySem.W.Frag) (a:Addr):It :=
  ⟨fun i H=>∃ xs x,SqT K H a xs∧xs[i]?=some x,fun i H x H'=>H'=H∧∀ xs,SqT K H a xs→xs[i]?=some x,fun i H=>∃ xs,SqT K H a xs∧xs.length≤i⟩
def Itr (lo:Int) (n:Nat):It:=⟨fun i _=>i < n,fun i H x H'=>H'=H∧x = .int (lo+i),fun i _=>n≤i⟩
theorem amC {cm:Bool} {tl:List (Addr×List V)} {P:Program} {w:World} {K:PySem.W.Frag} {tg:Expr} (a it:Addr):Turn cm tl P w K tg (Itl K a) [it] it (fun i h=>h.IsListIter it a i) where
  mem:=by simp
  obj:=fun i h st b hb=>by
    have e:b=it:=by simpa using hb
    subst e
    obtain ⟨o,e,c,d⟩:=st
    exact ⟨o,e,fun v z=>by rw [d] at z;cases z⟩
  keep:=fun i h h' st k=>st.at fun o e=>k it (by simp) o e
  item:=by
    intro X hP hw hK hc ht i pins s σ H E I hf st hg
    subst hP hw hK
    obtain ⟨xs,x,hq,hx⟩:=hg
    obtain ⟨its,rv,p,hz⟩:=I.list hq
    obtain ⟨u,hu,ru⟩:=rv.get hx
    obtain ⟨f0,f1,f2,f3,f4,f5⟩:=hf it (by simp)
    refine wpAny_pyNext_list_item st p.isList (x:=u) (by simpa using hu) fun h' st' sb=>?_
    have I1:Inv X pins σ H { s with heap:=h' }:=I.turned (t':=s.toks) (fun b o hb e=>(sb.2 b hb).trans e) f0 f1 f3 f4 f5
    obtain ⟨o,e,c,d⟩:=id st'
    exact ⟨u,rfl,aqR (s:={ s with heap:=h' }) e c d (by decide) ⟨x,H,I1,ru,⟨rfl,fun ys hy=>by rw [I.aAL hy hq];exact hx⟩,st',fun b hb=>(hf b hb).1⟩⟩
  done:=by
    intro X hP hw hK hc ht i pins s σ H E I hf st hg
    subst hP hw hK
    obtain ⟨xs,hq,hx⟩:=hg
    obtain ⟨its,rv,p,hz⟩:=I.list hq
    obtain ⟨f0,f1,f2,f3,f4,f5⟩:=hf it (by simp)
    have hl:=rv.length
    exact ay8 (I.hnd.heap I.hok) st p.isList (by simp;omega) fun h' eb=>⟨rfl,I.turned (t':=s.toks) (fun b o hb e=>eb b o hb e) f0 f1 f3 f4 f5⟩
  self:=fun _ _ _ _ _ st h=>wpAny_pyIter_listiter st h
theorem auK {cm:Bool} {tl:List (Addr×List V)} {P:Program} {w:World} {K:PySem.W.Frag} {tg:Expr} (a it:Addr):Turn cm tl P w K tg (Itt K a) [it] it (fun i h=>h.IsTupleIter it a i) where
  mem:=by simp
  obj:=fun i h st b hb=>by
    have e:b=it:=by simpa using hb
    subst e
    obtain ⟨o,e,c,d⟩:=st
    exact ⟨o,e,fun v z=>by rw [d] at z;cases z⟩
  keep:=fun i h h' st k=>st.at fun o e=>k it (by simp) o e
  item:=by
    intro X hP hw hK hc ht i pins s σ H E I hf st hg
    subst hP hw hK
    obtain ⟨xs,x,hq,hx⟩:=hg
    obtain ⟨its,rv,p,hz⟩:=I.tuple hq
    obtain ⟨u,hu,ru⟩:=rv.get hx
    obtain ⟨f0,f1,f2,f3,f4,f5⟩:=hf it (by simp)
    refine wpAny_pyNext_tuple_item st (show s.heap.IsTuple a its.toArray from p) (x:=u) (by simpa using hu) fun h' st' sb=>?_
    have I1:Inv X pins σ H { s with heap:=h' }:=I.turned (t':=s.toks) (fun b o hb e=>(sb.2 b hb).trans e) f0 f1 f3 f4 f5
    obtain ⟨o,e,c,d⟩:=id st'
    exact ⟨u,rfl,aqR (s:={ s with heap:=h' }) e c d (by decide) ⟨x,H,I1,ru,⟨rfl,fun ys hy=>by rw [I.amB hy hq];exact hx⟩,st',fun b hb=>(hf b hb).1⟩⟩
  done:=by
    intro X hP hw hK hc ht i pins s σ H E I hf st hg
    subst hP hw hK
    obtain ⟨xs,hq,hx⟩:=hg
    obtain ⟨its,rv,p,hz⟩:=I.tuple hq
    obtain ⟨f0,f1,f2,f3,f4,f5⟩:=hf it (by simp)
    have hl:=rv.length
    exact aAH (I.hnd.heap I.hok) st (show s.heap.IsTuple a its.toArray from p) (by simp;omega) fun h' eb=>⟨rfl,I.turned (t':=s.toks) (fun b o hb e=>eb b o hb e) f0 f1 f3 f4 f5⟩
  self:=fun _ _ _ _ _ st h=>wpAny_pyIter_tupleiter st h
theorem auL {cm:Bool} {tl:List (Addr×List V)} {P:Program} {w:World} {K:PySem.W.Frag} {tg:Expr} (it:Addr) (lo:Int) (n:Nat):Turn cm tl P w K tg (Itr lo n) [it] it (fun i h=>IsRangeIter h it (lo+(i:Nat) * 1) ((n:Int) - (i:Nat)) 1) where
  mem:=by simp
  obj:=fun i h st b hb=>by
    have e:b=it:=by simpa using hb
    subst e
    exact ⟨_,st,fun v z=>by
      have z':Data.fields _=Data.cell v:=z
      cases z'⟩
  keep:=fun i h h' st k=>k it (by simp) _ st
  item:=by
    intro X hP hw hK hc ht i pins s σ H E I hf st hg
    subst hP hw hK
    obtain ⟨f0,f1,f2,f3,f4,f5⟩:=hf it (by simp)
    have hi:i < n:=hg
    refine wpAny_pyNext_range_item st (by omega) fun h' st' kk=>?_
    have I1:Inv X pins σ H { s with heap:=h',toks:=s.toks+1 }:=I.turned (fun b o hb e=>(kk.2 b hb).trans e) f0 f1 f3 f4 f5
    have st2:IsRangeIter h' it (lo+((i+1:Nat):Int) * 1) ((n:Int) - ((i+1:Nat):Int)) 1:=by
      have e1:lo+((i:Nat):Int) * 1+1=lo+((i+1:Nat):Int) * 1:=by omega
      have e2:(n:Int) - ((i:Nat):Int) - 1=(n:Int) - ((i+1:Nat):Int):=by omega
      rw [← e1,← e2];exact st'
    refine ⟨_,rfl,aqR (s:={ s with heap:=h',toks:=s.toks+1 }) (n := "range_iterator") st2 rfl rfl (by decide) ⟨.int (lo+i),H,I1,⟨s.toks,?_⟩,⟨rfl,rfl⟩,st2,fun b hb=>(hf b hb).1⟩⟩
    rw [Int.mul_one]
  done:=by
    intro X hP hw hK hc ht i pins s σ H E I hf st hg
    subst hP hw hK
    obtain ⟨f0,f1,f2,f3,f4,f5⟩:=hf it (by simp)
    exact aAI (I.hnd.heap I.hok) st (by have:n≤i:=hg;omega) fun h' eb=>⟨rfl,I.turned (t':=s.toks) (fun b o hb e=>eb b o hb e) f0 f1 f3 f4 f5⟩
  self:=fun _ _ _ _ _ st h=>wpAny_pyIter_rangeiter st h
end L2
namespace L2
open PySem PySem.Spec PyProof.Rows
section
variable {X:Cx} {tg:Expr}
theorem aAP {pins:List (Addr×Obj)} {σ:St} {H:Hp} {s:Shared} {R:It→Hp→Prop} {E:Value→Shared→Prop} {lo hi:Int} {t u v:Tok} {tk:Nat} (I:Inv X pins σ H s) (h1:-(2 ^ 62)≤lo) (h2:lo < 2 ^ 62) (h3:-(2 ^ 62)≤hi) (h4:hi < 2 ^ 62)
    (q:R (Itr lo (hi - lo).toNat) H):wpAny (model X.prog X.w) X.A (pyIter (.ref s.heap.objs.size)) (PIE X pins σ tg R) E { s with heap:=s.heap.push { cls := .type "range",data := .fields #[.int lo t,.int hi u,.int 1 v] },toks:=tk }:=by
  refine wpAny_pyIter_range (IsRange.new ..) (small_one h1 h2 h3 h4) ?_
  have I1:Inv X pins σ H { s with heap:=s.heap.push { cls := .type "range",data := .fields #[.int lo t,.int hi u,.int 1 v] },toks:=tk }:=I.kept fun b o e=>Heap.get?_push_of_some _ e
  refine ⟨(s.heap.push { cls := .type "range",data := .fields #[.int lo t,.int hi u,.int 1 v] }).objs.size,[(s.heap.push { cls := .type "range",data := .fields #[.int lo t,.int hi u,.int 1 v] }).objs.size],_,_,H,rfl,
    I1.kept (t':=tk) fun b o e=>Heap.get?_push_of_some _ e,auL _ lo (hi - lo).toNat,?_,fun b hb=>?_,q⟩
  · have e1:lo+((0:Nat):Int) * 1=lo:=by simp
    have e2:(((hi - lo).toNat:Nat):Int) - ((0:Nat):Int)=Builtin.Range.rangeSize lo hi 1:=by rw [rangeSize_one];split <;> omega
    show IsRangeIter _ _ (lo+((0:Nat):Int) * 1) ((((hi - lo).toNat:Nat):Int) - ((0:Nat):Int)) 1
    rw [e1,e2]
    exact Heap.get?_push_size _ rfl
  · have e:b=(s.heap.push { cls := .type "range",data := .fields #[.int lo t,.int hi u,.int 1 v] }).objs.size:=by simpa using hb
    subst e
    exact I1.aqQ (Nat.le_refl _) (I1.hok.fresh (Nat.le_refl _))
def aRN (ta:TA):TI:=fun σ H R=>ta σ H fun vs H1=>∃ j:Int,vs=[.int j]∧-(2 ^ 62)≤j∧j < 2 ^ 62∧R (Itr 0 j.toNat) H1
theorem amD {a:Expr} {ta:TA} {p pos:Pos} (hg:Gl X "range") (hm:X.mg "range" = none) (ha:PA X [a] ta) (hs:starEach [a] X.env=[(false,eval a X.env)]:=by rfl):PI X tg (.Call (.Name "range" p) [a] [] pos) (aRN ta):=by
  intro pins s σ H R I h
  refine Call_ (aeL I hg hm boot_range (PyProof.Rows.callWith_type1 (kY (ha pos pins s σ H _ I h) fun us s1 ⟨vs,H1,I1,r1,q1⟩=>?_) hs rfl))
  obtain ⟨j,e,q1,q2,q⟩:=q1
  subst e
  cases r1 with
  | cons r rr =>
    cases rr
    obtain ⟨t,rfl⟩:=r
    exact call_range_1 (aAP I1 (by omega) (by omega) q1 q2 (by simpa using q))
def aWV (wi:TI) (g:TG) (tb:TS):TS:=fun D σ H=>wi σ H fun J H1=>∃ W:Nat→Nat→St→Hp→Prop,(∃ m,W 0 m σ H1)∧∀ i m σ H,W i m σ H →
  (J.stop i H∧D.nx σ H)∨(J.go i H∧∃ N:St→Hp→Prop,(∀ σ' H',N σ' H'→∃ m',m' < m∧W (i+1) m' σ' H')∧∀ x H',J.yld i H x H'→g x σ H' fun σ2 H2=>tb { D with nx:=N,ct:=N,bk:=D.nx } σ2 H2)
def aeM (fp:List Addr) (h:Heap):List (Addr×Obj):=fp.filterMap fun b=>(h.get? b).map fun o=>(b,o)
theorem a4W {fp:List Addr} {h:Heap} {b:Addr} {o:Obj} (hb:b∈fp) (e:h.get? b=some o):(b,o)∈aeM fp h:=List.mem_filterMap.mpr ⟨b,hb,by rw [e];rfl⟩
theorem ayG {fp:List Addr} {h:Heap} {p:Addr×Obj} (hp:p∈aeM fp h):p.1∈fp∧h.get? p.1=some p.2:=by
  obtain ⟨b,hb,e⟩:=List.mem_filterMap.mp hp
  cases q:h.get? b with
  | none=>rw [q] at e;cases e
  | some o =>
    rw [q] at e
    have e':(b,o)=p:=Option.some.inj e
    subst e'
    exact ⟨hb,q⟩
theorem Inv.pinned {pins:List (Addr×Obj)} {σ:St} {H:Hp} {s:Shared} {fp:List Addr} (I:Inv X pins σ H s) (hf:∀ b∈fp,ahH X pins H b) (ho:∀ b∈fp,∃ o,s.heap.get? b=some o∧∀ v,o.data ≠ .cell v):Inv X (pins++aeM fp s.heap) σ H s :=
  I.awK fun p hp=>(List.mem_append.mp hp).elim (fun z=>I.pin p (List.mem_append_right _ z)) fun z=>by
    obtain ⟨hb,e⟩:=ayG z
    obtain ⟨f0,f1,f2,_⟩:=hf p.1 hb
    obtain ⟨o,e',d⟩:=ho p.1 hb
    rw [e] at e';cases e'
    exact ⟨e,f0,f1,f2,d⟩
theorem Inv.acN {pins pl:List (Addr×Obj)} {σ:St} {H:Hp} {s:Shared} (I:Inv X (pins++pl) σ H s):Inv X pins σ H s:=I.awK fun p hp=>I.pin p (List.mem_append_right _ (List.mem_append_left _ hp))
theorem aLW {iter:Expr} {body:List Stmt} {wi:TI} {g:TG} {tb:TS} {pos:Pos} (hp:PassesOwn (model X.prog X.w) X.A X.env X.xe) (hi:PI X tg iter wi) (hg:PG X tg g) (hb:PSs X body tb)
    (hs:∀ x,foldedSetIterable iter X.env x=pure x:=by intro _;rfl):PS X (.For tg iter body [] pos) (aWV wi g tb):=by
  intro pins s σ H D I h
  refine wpAny_For (kY (hi pins s σ H _ I h) fun v s1 h1=>kY h1 fun itv s2 h2=>?_) hs
  obtain ⟨it,fp,tn,J,H2,e,I2,T,st2,f2,W,⟨m0,w0⟩,turn⟩:=h2
  subst e
  have stat:∀ {H':Hp},(∀ b∈fp,H' b=none)→∀ b∈fp,ahH X pins H' b:=fun hn b hb=>⟨hn b hb,(f2 b hb).2⟩
  refine codeAny_forLoop_any (fun n s'=>∃ i σ' H',Inv X pins σ' H' s'∧tn i s'.heap∧(∀ b∈fp,H' b=none)∧W i n σ' H') ?_ m0 ⟨0,σ,H2,I2,st2,fun b hb=>(f2 b hb).1,w0⟩
  rintro n s3 ⟨i,σ3,H3,I3,st3,fr3,w3⟩
  rcases turn i n σ3 H3 w3 with ⟨stop,qn⟩ | ⟨go,N,hN,step⟩
  · refine wpAny_passesOwn hp (kY (T.done X rfl rfl rfl (fun h=>h) (fun _ h=>h) i pins s3 σ3 H3 X.xe I3 (stat fr3) st3 stop) fun r s4 ⟨hr,I4⟩=>?_)
    subst hr
    exact wpAny_execs_nil ⟨σ3,H3,I4,qn⟩
  · refine wpAny_passesOwn hp (kY (T.item X rfl rfl rfl (fun h=>h) (fun _ h=>h) i pins s3 σ3 H3 X.xe I3 (stat fr3) st3 go) fun r s4 ⟨u,hr,h4⟩=>?_)
    subst hr
    refine wpAny_passesOwn hp (kY h4 fun _ s5 ⟨x,H5,I5,r5,y5,st5,fr5⟩=>?_)
    have I5':=I5.pinned (stat fr5) (T.obj _ _ st5)
    refine wpAny_passesOwn hp (kY (hg _ s5 σ3 H5 x u _ I5' r5 (step x H5 y5)) fun _ s6 ⟨σ6,H6,I6,q6⟩=>?_)
    refine wpAny_passesOwn hp (kY (hb _ s6 σ6 H6 _ I6 q6) fun f s7 q7=>?_)
    have again:∀ {σ7:St} {H7:Hp},Inv X (pins++aeM fp s5.heap) σ7 H7 s7→N σ7 H7→∃ m,m < n∧∃ i σ' H',Inv X pins σ' H' s7∧tn i s7.heap∧(∀ b∈fp,H' b=none)∧W i m σ' H':=fun {σ7 H7} I7 n7=>by
      obtain ⟨m',hm,w7⟩:=hN σ7 H7 n7
      refine ⟨m',hm,i+1,σ7,H7,I7.acN,T.keep _ _ _ st5 fun b hb o e=>(I7.pin (b,o) (List.mem_append_right _ (List.mem_append_right _ (a4W hb e)))).1,fun b hb=>?_,w7⟩
      obtain ⟨o,e,d⟩:=T.obj _ _ st5 b hb
      exact (I7.pin (b,o) (List.mem_append_right _ (List.mem_append_right _ (a4W hb e)))).2.1
    cases f with
    | next=>obtain ⟨σ7,H7,I7,n7⟩:=q7;exact again I7 n7
    | cont=>obtain ⟨σ7,H7,I7,n7⟩:=q7;exact again I7 n7
    | brk=>obtain ⟨σ7,H7,I7,q7⟩:=q7;exact ⟨σ7,H7,I7.acN,q7⟩
    | ret v=>obtain ⟨x7,σ7,H7,I7,r7,q7⟩:=q7;exact ⟨x7,σ7,H7,I7.acN,r7,q7⟩
end
end L2
namespace L2
open PySem PySem.Spec PyProof.Rows
abbrev R2:=V→V→Hp→VK→Prop
def OpR (X:Cx) (f:Value→Value→Sem Value) (r:R2):Prop :=
  ∀ (pins:List (Addr×Obj)) (s:Shared) (σ:St) (H:Hp) (x y:V) (v u:Value) (Q:VK),Inv X pins σ H s→RelV x v→RelV y u→r x y H Q →
    wpAny (model X.prog X.w) X.A (f v u) (EP X pins σ Q) X.xe s
def UnR (X:Cx) (f:Value→Sem Value) (r:V→Hp→VK→Prop):Prop :=
  ∀ (pins:List (Addr×Obj)) (s:Shared) (σ:St) (H:Hp) (x:V) (v:Value) (Q:VK),Inv X pins σ H s→RelV x v→r x H Q →
    wpAny (model X.prog X.w) X.A (f v) (EP X pins σ Q) X.xe s
def a3L (X:Cx) (f:Value) (r:List V→Hp→VK→Prop):Prop :=
  ∀ (pins:List (Addr×Obj)) (s:Shared) (σ:St) (H:Hp) (xs:List V) (us:List Value) (Q:VK),Inv X pins σ H s→Vals xs us→r xs H Q →
    wpAny (model X.prog X.w) X.A (call f us) (EP X pins σ Q) X.xe s
def tOp (r:R2) (ta tb:TE):TE:=fun σ H Q=>ta σ H fun x H1=>tb σ H1 fun y H2=>r x y H2 Q
def tUn (r:V→Hp→VK→Prop) (ta:TE):TE:=fun σ H Q=>ta σ H fun x H1=>r x H1 Q
def rI (C:Int→Int→Prop) (g:Int→Int→V):R2:=fun x y H Q=>∃ i j,x = .int i∧y = .int j∧C i j∧Q (g i j) H
def rI0 (g:Int→Int→V):R2:=fun x y H Q=>∃ i j,x = .int i∧y = .int j∧Q (g i j) H
def rU (g:Int→V):V→Hp→VK→Prop:=fun x H Q=>∃ i,x = .int i∧Q (g i) H
section
variable {X:Cx} {a b c:Expr} {ta tb tc:TE} {pos:Pos}
theorem aLX (ha:PE X a ta) (hb:PE X b tb) {pins:List (Addr×Obj)} {s:Shared} {σ:St} {H:Hp} {R:V→V→Hp→Prop} (I:Inv X pins σ H s)
    (h:ta σ H fun x H1=>tb σ H1 fun y H2=>R x y H2) {Q:Value→Shared→Prop} {f:Value→Value→Sem Value}
    (hf:∀ v u s2 x y H2,Inv X pins σ H2 s2→RelV x v→RelV y u→R x y H2→wpAny (model X.prog X.w) X.A (f v u) Q X.xe s2) :
    wpAny (model X.prog X.w) X.A (eval a X.env) (fun v s₁=>wpAny (model X.prog X.w) X.A (eval b X.env) (fun u s₂=>wpAny (model X.prog X.w) X.A (f v u) Q X.xe s₂) X.xe s₁) X.xe s:=by
  refine kY (ha pins s σ H _ I h) fun v s1 ⟨x,H1,I1,r1,q1⟩=>?_
  refine kY (hb pins s1 σ H1 _ I1 q1) fun u s2 ⟨y,H2,I2,r2,q2⟩=>?_
  exact hf v u s2 x y H2 I2 r1 r2 q2
theorem aRO {op:Operator} {r:R2} (ho:OpR X (binaryOp op) r) (ha:PE X a ta) (hb:PE X b tb):PE X (.BinOp a op b pos) (tOp r ta tb):=by
  intro pins s σ H Q I h
  exact wpAny_BinOp (aLX ha hb I h fun v u s2 x y H2 I2 rx ry q=>ho pins s2 σ H2 x y v u Q I2 rx ry q)
theorem aRP {op:UnaryOp} {r:V→Hp→VK→Prop} (ho:UnR X (unaryOp op) r) (ha:PE X a ta):PE X (.UnaryOp op a pos) (tUn r ta):=by
  intro pins s σ H Q I h
  exact UnaryOp_ (kY (ha pins s σ H _ I h) fun v s1 ⟨x,H1,I1,r1,q1⟩=>ho pins s1 σ H1 x v Q I1 r1 q1)
theorem opI {f:Value→Value→Sem Value} {C:Int→Int→Prop} {g:Int→Int→Int}
    (rule:∀ (i j:Int) (t u:Tok) (s:Shared) (Q:Value→Shared→Prop) (E:Value→Shared→Prop),C i j→Q (.int (g i j) s.toks) { s with toks:=s.toks+1 }→wpAny (model X.prog X.w) X.A (f (.int i t) (.int j u)) Q E s) :
    OpR X f (rI C fun i j => .int (g i j)):=by
  intro pins s σ H x y v u Q I rx ry h
  obtain ⟨i,j,rfl,rfl,hc,q⟩:=h
  obtain ⟨t,rfl⟩:=rx
  obtain ⟨t',rfl⟩:=ry
  exact rule i j t t' s _ _ hc ⟨.int (g i j),H,I.tok _,⟨_,rfl⟩,q⟩
theorem aRQ {f:Value→Value→Sem Value} {g:Int→Int→Int}
    (rule:∀ (i j:Int) (t u:Tok) (s:Shared) (Q:Value→Shared→Prop) (E:Value→Shared→Prop),Q (.int (g i j) s.toks) { s with toks:=s.toks+1 }→wpAny (model X.prog X.w) X.A (f (.int i t) (.int j u)) Q E s) :
    OpR X f (rI0 fun i j => .int (g i j)):=by
  intro pins s σ H x y v u Q I rx ry h
  obtain ⟨i,j,rfl,rfl,q⟩:=h
  obtain ⟨t,rfl⟩:=rx
  obtain ⟨t',rfl⟩:=ry
  exact rule i j t t' s _ _ ⟨.int (g i j),H,I.tok _,⟨_,rfl⟩,q⟩
theorem aF1 {f:Value→Value→Sem Value} {g:Int→Int→Bool}
    (rule:∀ (i j:Int) (t u:Tok) (s:Shared) (Q:Value→Shared→Prop) (E:Value→Shared→Prop),Q (.bool (g i j)) s→wpAny (model X.prog X.w) X.A (f (.int i t) (.int j u)) Q E s) :
    OpR X f (rI0 fun i j => .bl (g i j)):=by
  intro pins s σ H x y v u Q I rx ry h
  obtain ⟨i,j,rfl,rfl,q⟩:=h
  obtain ⟨t,rfl⟩:=rx
  obtain ⟨t',rfl⟩:=ry
  exact rule i j t t' s _ _ ⟨.bl (g i j),H,I,rfl,q⟩
def aLY (i j:Int):Prop:=0 < j∧j < 1073741824
def aLZ (i j:Int):Prop:=0≤j∧j≤1000000∧i.natAbs < 2 ^ 64
def aAQ (i j:Int):Prop:=(-(2 ^ 64) < i∧i < 2 ^ 64)∨(-(2 ^ 64) < j∧j < 2 ^ 64)
theorem aAQ.ok {i j:Int} (h:aAQ i j):IntMulOk i j:=by
  rcases h with ⟨h1,h2⟩ | ⟨h1,h2⟩
  · exact .of_left (intBits_le_64 h1 h2)
  · exact .of_right (intBits_le_64 h1 h2)
theorem aM0:OpR X (binaryOp .Add) (rI0 fun i j => .int (i+j)):=aRQ fun _ _ _ _ _ _ _ q=>add_int q
theorem aM1:OpR X (binaryOp .Sub) (rI0 fun i j => .int (i - j)):=aRQ fun _ _ _ _ _ _ _ q=>sub_int q
theorem aM2:OpR X (binaryOp .Mult) (rI aAQ fun i j => .int (i * j)):=opI fun _ _ _ _ _ _ _ hc q=>mul_int q hc.ok
theorem aF2:OpR X (binaryOp .FloorDiv) (rI aLY fun i j => .int (i / j)):=opI fun i j _ _ _ _ _ hc q=>by
  have h1:(0:Int) < j:=hc.1
  have h2:j < 1073741824:=hc.2
  exact floordiv_int (by omega) (by rw [Int.fdiv_eq_ediv_of_nonneg i (by omega)];exact q) (.inl (PyProof.noPylong_small (by omega)))
theorem aM3:OpR X (binaryOp .Mod) (rI (fun _ j=>0 < j) fun i j => .int (i % j)):=opI fun i j _ _ _ _ _ hc q=>by
  have h1:(0:Int) < j:=hc
  exact mod_int' (by omega) (by rw [Int.fmod_eq_emod_of_nonneg i (by omega)];exact q)
theorem aM4:OpR X (binaryOp .Pow) (rI aLZ fun i j => .int (i ^ j.toNat)):=opI fun _ _ _ _ _ _ _ hc q=>pow_int_small hc.1 hc.2.1 hc.2.2 q
theorem unI {f:Value→Sem Value} {g:Int→Int}
    (rule:∀ (i:Int) (t:Tok) (s:Shared) (Q:Value→Shared→Prop) (E:Value→Shared→Prop),Q (.int (g i) s.toks) { s with toks:=s.toks+1 }→wpAny (model X.prog X.w) X.A (f (.int i t)) Q E s) :
    UnR X f (rU fun i => .int (g i)):=by
  intro pins s σ H x v Q I rx h
  obtain ⟨i,rfl,q⟩:=h
  obtain ⟨t,rfl⟩:=rx
  exact rule i t s _ _ ⟨.int (g i),H,I.tok _,⟨_,rfl⟩,q⟩
theorem aM5:UnR X (unaryOp .USub) (rU fun i => .int (-i)):=unI fun _ _ _ _ _ q=>neg_int q
end
section
variable {X:Cx} {a b c:Expr} {ta tb tc:TE} {pos:Pos}
theorem anY {pins:List (Addr×Obj)} {σ:St} {H:Hp} {s:Shared} {Q:VK} {k k':Bool} (I:Inv X pins σ H s) (q:Q (.bl k) H) (e:k=k'):EP X pins σ Q (.bool k') s:=by
  subst e
  exact ⟨.bl k,H,I,rfl,q⟩
theorem aRR:OpR X (compareOp .Lt) (rI0 fun i j => .bl (decide (i < j))):=aF1 fun _ _ _ _ _ _ _ q=>lt_int q
theorem aRS:OpR X (compareOp .LtE) (rI0 fun i j => .bl (decide (i≤j))):=aF1 fun _ _ _ _ _ _ _ q=>le_int q
theorem aRT:OpR X (compareOp .Gt) (rI0 fun i j => .bl (decide (j < i))):=aF1 fun _ _ _ _ _ _ _ q=>gt_int q
theorem aRU:OpR X (compareOp .GtE) (rI0 fun i j => .bl (decide (j≤i))):=aF1 fun _ _ _ _ _ _ _ q=>ge_int q
theorem ayH:OpR X (compareOp .In) (fun x y H Q=>∃ i j,x = .str i∧y = .str j∧Q (.bl (!(Builtin.Str.occurrences j i 0 j.length 1).isEmpty)) H):=by
  intro pins s σ H x y v u Q I rx ry h
  obtain ⟨i,j,rfl,rfl,q⟩:=h
  obtain ⟨t,rfl⟩:=rx
  obtain ⟨t',rfl⟩:=ry
  exact in_str (anY I q rfl)
theorem aM6:OpR X (compareOp .Is) (fun x y H Q=>y = .non∧Q (.bl (decide (x = .non))) H):=by
  intro pins s σ H x y v u Q I rx ry h
  obtain ⟨rfl,q⟩:=h
  cases ry
  refine is_none_gen (anY I q ?_)
  cases x <;> first
    | (cases rx;rfl)
    | (obtain ⟨t,rfl⟩:=rx;rfl)
theorem aF3:OpR X (compareOp .IsNot) (fun x y H Q=>y = .non∧Q (.bl (!decide (x = .non))) H):=by
  intro pins s σ H x y v u Q I rx ry h
  obtain ⟨rfl,q⟩:=h
  cases ry
  refine isnot_none_gen (anY I q ?_)
  cases x <;> first
    | (cases rx;rfl)
    | (obtain ⟨t,rfl⟩:=rx;rfl)
theorem anZ:OpR X (compareOp .NotIn) (fun x y H Q=>∃ i j,x = .str i∧y = .str j∧Q (.bl (!(!(Builtin.Str.occurrences j i 0 j.length 1).isEmpty))) H):=by
  intro pins s σ H x y v u Q I rx ry h
  obtain ⟨i,j,rfl,rfl,q⟩:=h
  obtain ⟨t,rfl⟩:=rx
  obtain ⟨t',rfl⟩:=ry
  exact notIn_str (anY I q rfl)
theorem OpR.or {f:Value→Value→Sem Value} {r r':R2} (h:OpR X f r) (h':OpR X f r'):OpR X f (fun x y H Q=>r x y H Q∨r' x y H Q):=by
  intro pins s σ H x y v u Q I rx ry q
  rcases q with q | q
  · exact h pins s σ H x y v u Q I rx ry q
  · exact h' pins s σ H x y v u Q I rx ry q
theorem aWY (b:Expr) {op:CmpOp} (h:op ≠ .In:=by decide) (h2:op ≠ .NotIn:=by decide):behindInMarks op b=false:=by
  have e1:(op == CmpOp.In)=false:=by cases op <;> first | rfl | exact absurd rfl h
  have e2:(op == CmpOp.NotIn)=false:=by cases op <;> first | rfl | exact absurd rfl h2
  cases b <;> simp [behindInMarks,e1,e2]
theorem aF4 {op:CmpOp} {r:R2} (ho:OpR X (compareOp op) r) (ha:PE X a ta) (hb:PE X b tb) (hm:behindInMarks op b=false):PE X (.Compare a [op] [b] pos) (tOp r ta tb):=by
  intro pins s σ H Q I h
  exact wpAny_Compare1 (aLX ha hb I h fun v u s2 x y H2 I2 rx ry q=>ho pins s2 σ H2 x y v u Q I2 rx ry q) hm
def aAR (t:TE):TT:=fun σ H Q=>t σ H fun x H'=>∃ k,x = .bl k∧Q k H'
theorem aF5 {op:CmpOp} {r:R2} (ho:OpR X (compareOp op) r) (ha:PE X a ta) (hb:PE X b tb) (hm:behindInMarks op b=false):PT X (.Compare a [op] [b] pos) (aAR (tOp r ta tb)):=by
  intro pins s σ H Q I h
  refine wpAny_isTrue_Compare1 (kY (ha pins s σ H _ I h) fun v s1 ⟨x,H1,I1,r1,q1⟩=>kY (hb pins s1 σ H1 _ I1 q1) fun u s2 ⟨y,H2,I2,r2,q2⟩ =>
    kY (ho pins s2 σ H2 x y v u _ I2 r1 r2 q2) fun c s3 ⟨z,H3,I3,r3,k,e,q3⟩=>?_) hm
  subst e
  cases r3
  exact wpAny_truthy_bool ⟨H3,I3,q3⟩
def auM (r r':R2) (ta tb tc:TE):TE:=fun σ H Q=>ta σ H fun x H1=>tb σ H1 fun y H2=>r x y H2 fun z H3=>∃ k,z = .bl k ∧
  (if k=true then tc σ H3 fun w' H4=>r' y w' H4 Q else Q (.bl false) H3)
theorem aAS {op op':CmpOp} {r r':R2} (ho:OpR X (compareOp op) r) (ho':OpR X (compareOp op') r') (ha:PE X a ta) (hb:PE X b tb) (hc:PE X c tc)
    (hm:lastMarks [op,op'] [b,c]=false:=by with_unfolding_all rfl):PE X (.Compare a [op,op'] [b,c] pos) (auM r r' ta tb tc):=by
  intro pins s σ H Q I h
  refine Compare_chain (kY (ha pins s σ H _ I h) fun v s1 ⟨x,H1,I1,r1,q1⟩=>chain_link (kY (hb pins s1 σ H1 _ I1 q1) fun u s2 ⟨y,H2,I2,r2,q2⟩ =>
    kY (ho pins s2 σ H2 x y v u _ I2 r1 r2 q2) fun d s3 ⟨z,H3,I3,r3,k,e,q3⟩=>?_)) hm
  subst e
  cases r3
  refine wpAny_truthy_bool ?_
  cases k with
  | false=>exact ite_ff ⟨.bl false,H3,I3,rfl,q3⟩
  | true=>exact ite_tt (chain_last (kY (hc pins s3 σ H3 _ I3 q3) fun w' s4 ⟨z',H4,I4,r4,q4⟩=>ho' pins s4 σ H4 y z' u w' Q I4 r2 r4 q4))
theorem aAT {op op':CmpOp} {r r':R2} (ho:OpR X (compareOp op) r) (ho':OpR X (compareOp op') r') (ha:PE X a ta) (hb:PE X b tb) (hc:PE X c tc)
    (hm:lastMarks [op,op'] [b,c]=false:=by with_unfolding_all rfl):PT X (.Compare a [op,op'] [b,c] pos) (aAR (auM r r' ta tb tc)):=by
  intro pins s σ H Q I h
  refine isTrue_chain (kY (ha pins s σ H _ I h) fun v s1 ⟨x,H1,I1,r1,q1⟩=>test_link (kY (hb pins s1 σ H1 _ I1 q1) fun u s2 ⟨y,H2,I2,r2,q2⟩ =>
    kY (ho pins s2 σ H2 x y v u _ I2 r1 r2 q2) fun d s3 ⟨z,H3,I3,r3,k,e,q3⟩=>?_)) hm
  subst e
  cases r3
  refine wpAny_truthy_bool ?_
  cases k with
  | false =>
    obtain ⟨k',e',q'⟩:=q3
    cases e'
    exact ite_ff ⟨H3,I3,q'⟩
  | true =>
    refine ite_tt (test_last (kY (hc pins s3 σ H3 _ I3 q3) fun w' s4 ⟨z',H4,I4,r4,q4⟩=>kY (ho' pins s4 σ H4 y z' u w' _ I4 r2 r4 q4) fun d' s5 ⟨z2,H5,I5,r5,k2,e2,q5⟩=>?_))
    subst e2
    cases r5
    exact wpAny_truthy_bool ⟨H5,I5,q5⟩
theorem aiK:(sizeLine:Nat) < 2 ^ 63:=by rw [sizeLine_eq];decide
theorem auN:OpR X (binaryOp .Add) (fun x y H Q=>∃ i j,x = .str i∧y = .str j∧i.length+j.length≤sizeLine∧Q (.str (i++j)) H):=by
  intro pins s σ H x y v u Q I rx ry h
  obtain ⟨i,j,rfl,rfl,hz,q⟩:=h
  obtain ⟨t,rfl⟩:=rx
  obtain ⟨t',rfl⟩:=ry
  exact add_str (fun t' tk=>⟨.str (i++j),H,I.tok _,⟨_,rfl⟩,q⟩) hz
theorem vals1 {x:V} {us:List Value} (r:Vals [x] us):∃ u,us=[u]∧RelV x u:=by
  cases r with
  | cons r1 r2=>cases r2;exact ⟨_,rfl,r1⟩
theorem vals2 {x y:V} {us:List Value} (r:Vals [x,y] us):∃ u w',us=[u,w']∧RelV x u∧RelV y w':=by
  cases r with
  | cons r1 r2 =>
    cases r2 with
    | cons r3 r4=>cases r4;exact ⟨_,_,rfl,r1,r3⟩
theorem ayI (hc:X.calm=true):a3L X (.builtin "max") (fun xs H Q=>∃ i j,xs=[.int i,.int j]∧Q (.int (if j > i then j else i)) H):=by
  intro pins s σ H xs us Q I r h
  obtain ⟨i,j,rfl,q⟩:=h
  obtain ⟨u,w',rfl,⟨t,rfl⟩,⟨t',rfl⟩⟩:=vals2 r
  refine max_two_ints (I.ok.hd hc) fun h' tk k=>⟨_,H,I.kept k,?_,q⟩
  by_cases hj:j > i
  · rw [if_pos hj,if_pos hj];exact ⟨_,rfl⟩
  · rw [if_neg hj,if_neg hj];exact ⟨_,rfl⟩
theorem ayJ (hc:X.calm=true):a3L X (.builtin "min") (fun xs H Q=>∃ i j,xs=[.int i,.int j]∧Q (.int (if j < i then j else i)) H):=by
  intro pins s σ H xs us Q I r h
  obtain ⟨i,j,rfl,q⟩:=h
  obtain ⟨u,w',rfl,⟨t,rfl⟩,⟨t',rfl⟩⟩:=vals2 r
  refine min_two_ints (I.ok.hd hc) fun h' tk k=>⟨_,H,I.kept k,?_,q⟩
  by_cases hj:j < i
  · rw [if_pos hj,if_pos hj];exact ⟨_,rfl⟩
  · rw [if_neg hj,if_neg hj];exact ⟨_,rfl⟩
theorem ayK:a3L X (.type "int") (fun xs H Q=>(∃ i,xs=[.int i]∧Q (.int i) H)∨∃ k,xs=[.bl k]∧Q (.int (if k then 1 else 0)) H):=by
  intro pins s σ H xs us Q I r h
  rcases h with ⟨i,rfl,q⟩ | ⟨k,rfl,q⟩
  · obtain ⟨u,rfl,t,rfl⟩:=vals1 r
    exact call_int_int ⟨.int i,H,I,⟨_,rfl⟩,q⟩
  · obtain ⟨u,rfl,r1⟩:=vals1 r
    cases r1
    exact call_int_bool ⟨.int (if k then 1 else 0),H,I.tok _,⟨_,rfl⟩,q⟩
end
end L2
namespace L2
open PySem PySem.Spec PyProof.Rows
structure auO (h:Heap) (x dx C:Addr) (mA:Str→Option Value):Prop where
  obj:h.get? x=some (PySem.W.instObj C dx)
  ns:h.Ns1 dx mA
  ne:dx≠x
theorem ayL {h:Heap} {dx:Addr} {mA:Str→Option Value} (n:h.Ns1 dx mA):∃ od,h.get? dx=some od∧∀ name,PySem.W.lookIn name od=some (mA name):=by
  obtain ⟨o,es,ep,ho,hd,hk,_,hm⟩:=n
  refine ⟨o,ho,fun name=>?_⟩
  have e:=hm name
  unfold nsFind findBy at e
  rw [← Array.find?_toList] at e
  unfold PySem.W.lookIn
  rw [hd]
  dsimp only
  split
  · rename_i y q
    rw [q] at e
    exact congrArg some e
  · rename_i q
    rw [q] at e
    have a:es.toList.any (·.refKey)=false:=by
      rw [List.any_eq_false]
      intro y hy
      obtain ⟨z,t,hkey⟩:=hk y (Array.mem_toList_iff.mp hy)
      simp [DictEntry.refKey,hkey]
    have a':¬ es.toList.any (·.refKey)=true:=by rw [a];exact Bool.false_ne_true
    rw [if_neg a']
    exact congrArg some e
theorem auO.look {h:Heap} {x dx C:Addr} {mA:Str→Option Value} (I:auO h x dx C mA):∃ od,PySem.W.InstAt h x (PySem.W.instObj C dx) C (some od)∧∀ name,PySem.W.lookIn name od=some (mA name) :=
  let ⟨od,ho,hl⟩:=ayL I.ns
  ⟨od,⟨I.obj,rfl,rfl,ho⟩,hl⟩
section
variable {prog:Program} {w:World} {A:Around} {E:Value→Shared→Prop} {s:Shared} {K:PySem.W.Frag} {x dx C f:Addr} {mA:Str→Option Value} {name:Str} {v:Value}
theorem get_map {expr:Bool} {Q:Value→Shared→Prop} (X:K.In s.heap) (I:auO s.heap x dx C mA) (hg:PySem.W.plainGet K C name=true) (hh:PySem.W.hasDictIn K C=true)
    (ha:PySem.W.findIn K (.ref C) name=some none) (hv:mA name=some v) (hv':PySem.W.handedIn v=true) (h:Q v { s with toks:=s.toks+1 }) :
    wpAny (model prog w) A (getAttr (.ref x) name expr) Q E s:=by
  obtain ⟨od,J,hl⟩:=I.look
  exact PySem.W.get_value X J (PySem.W.plainGet_of hg).1 (PySem.W.findObj_own hh ha rfl (by rw [hl,hv])) hv' h
theorem aAU {pl:Sem Bool} {Q:Value×List Value→Shared→Prop} (X:K.In s.heap) (I:auO s.heap x dx C mA) (hg:PySem.W.plainGet K C name=true)
    (hf:PySem.W.findIn K (.ref C) name=some (some (.ref f))) (ht:PySem.W.isFn K (.ref f)=true) (hv:mA name=none) (h:Q (.ref f,[.ref x]) s) :
    wpAny (model prog w) A (getMethod (.ref x) name pl) Q E s:=by
  obtain ⟨od,J,hl⟩:=I.look
  exact PySem.W.method_fn X J (PySem.W.plainGet_of hg).1 (PySem.W.plainGet_of hg).2 hf (beq_iff_eq.mp ht) (by show (PySem.W.lookIn name od).map (·.isSome)=some false;rw [hl,hv];rfl) h
theorem aF6 {ns:List Str} {Q:Unit→Shared→Prop} (X:K.In s.heap) (I:auO s.heap x dx C mA)
    (hs:PySem.W.findIn K (.ref C) "__setattr__" = some (some (.builtin "object.__setattr__"))) (hp:PySem.W.plainOver K C=true) (ht:PySem.W.takerIn K C name=some none) (hh:PySem.W.hasDictIn K C=true)
    (hw:PySem.Within mA ns) (hsz:ns.length≤sizeLine)
    (h:∀ h',auO h' x dx C (fun y=>if y=name then some v else mA y)→Heap.SameBut dx s.heap h'→Q () { s with heap:=h',toks:=s.toks+2 }) :
    wpAny (model prog w) A (setAttr (.ref x) name v) Q E s:=by
  obtain ⟨od,J,hl⟩:=I.look
  refine PySem.W.set_plain X J hs (PySem.W.osa_open (s:={ s with toks:=s.toks+1 }) (r:=none) X J hp ht fun b=>?_)
  obtain ⟨cd,hc,hd'⟩:=PySem.W.any_some hh
  have hx:s.heap.get? x=some ⟨.ref C,some dx,.plain,#[]⟩:=I.obj
  refine wpAny_bind (wpAny_pure (wpAny_bind (wpAny_bind (wpAny_loadPart hx (wpAny_bind (PySem.W.Looks.here (s:={ s with toks:=s.toks+1 }) (PySem.W.looks_clsIn X hc) ?_))))))
  rw [hd']
  refine wpAny_pure (a:=some dx) (wpAny_bind (wpAny_pure (wpAny_bind ?_)))
  refine wpAny_nsSet1 (s:={ s with toks:=s.toks+1 }) I.ns fun h' hn2 hs2=>?_
  obtain ⟨oD,esD,epD,hoD,hdD,hcD⟩:=hn2.count (PySem.Within.cons name v hw)
  refine wpAny_bind (wpAny_lookBehind hoD (by rw [hdD];exact pastItsLine_dict (Nat.le_trans hcD (by rw [List.length_cons];omega))) ?_)
  exact wpAny_pure (h _ ⟨(hs2.2 _ (Ne.symm I.ne)).trans I.obj,hn2,I.ne⟩ hs2)
theorem aAV {R:Result→Shared→Prop} {vs:List Value} {kw:List (Str×Value)} (X:K.In s.heap) (hm:PySem.W.makesIn K C=true)
    (hi:PySem.W.findIn K (.ref C) "__init__" = some (some (.ref f))) (hf:PySem.W.typeIn K (.ref f)=some (.type "function"))
    (h:codeAny (model prog w) (A.under (.builtin "type.__call__" ⟨.ref C :: vs,kw⟩)) (.call (.ref f) ⟨.ref (s.heap.objs.size+1) :: vs,kw⟩) (PySem.W.InitBack (s.heap.objs.size+1) R)
      { s with heap:=(s.heap.push PySem.W.emptyDict).push (PySem.W.instObj C s.heap.objs.size) }) :
    codeAny (model prog w) A (.call (.ref C) ⟨vs,kw⟩) R s:=by
  obtain ⟨hh,g,d,t,os⟩:=s
  exact PySem.W.make_core (PySem.W.makes_of X hm) (PySem.W.looks_findIn X hi) (fun self=>PySem.W.bind_fn X self hf) (.inl rfl) h
end
def a4X (f:Str) (v:V):List (Str×V)→List (Str×V)
  | []=>[(f,v)]
  | (g,x) :: r=>if g=f then (g,v) :: r else (g,x) :: a4X f v r
theorem ag4 (f g:Str) (v:V):∀ fs:List (Str×V),(a4X f v fs).lookup g=if g=f then some v else fs.lookup g
  | []=>by
    show List.lookup g [(f,v)]=_
    by_cases h:g=f
    · have hb:(g == f)=true:=beq_iff_eq.mpr h
      simp only [List.lookup,hb,if_pos h]
    · have hb:(g == f)=false:=beq_eq_false_iff_ne.mpr h
      simp only [List.lookup,hb,if_neg h]
  | (k,x) :: r=>by
    have ih:=ag4 f g v r
    rw [show a4X f v ((k,x) :: r)=(if k=f then (k,v) :: r else (k,x) :: a4X f v r) from rfl]
    by_cases hk:k=f
    · rw [if_pos hk]
      by_cases h:g=k
      · have hb:(g == k)=true:=beq_iff_eq.mpr h
        simp only [List.lookup,hb,if_pos (h.trans hk)]
      · have hb:(g == k)=false:=beq_eq_false_iff_ne.mpr h
        simp only [List.lookup,hb,if_neg (fun e:g=f=>h (e.trans hk.symm))]
    · rw [if_neg hk]
      by_cases h:g=k
      · have hb:(g == k)=true:=beq_iff_eq.mpr h
        simp only [List.lookup,hb,if_neg (fun e:g=f=>hk (h.symm.trans e))]
      · have hb:(g == k)=false:=beq_eq_false_iff_ne.mpr h
        simp only [List.lookup,hb]
        exact ih
theorem aeN (f:Str) (v:V):∀ fs:List (Str×V),f∈(a4X f v fs).map (·.1)∧∀ g,g∈fs.map (·.1)→g∈(a4X f v fs).map (·.1)
  | []=>⟨by simp [a4X],fun g h=>by simp at h⟩
  | (k,x) :: r=>by
    obtain ⟨i1,i2⟩:=aeN f v r
    rw [show a4X f v ((k,x) :: r)=(if k=f then (k,v) :: r else (k,x) :: a4X f v r) from rfl]
    by_cases hk:k=f
    · rw [if_pos hk]
      subst hk
      exact ⟨by simp,fun g h=>by simpa using h⟩
    · rw [if_neg hk]
      refine ⟨?_,fun g h=>?_⟩
      · rw [List.map_cons]
        exact List.mem_cons_of_mem _ i1
      · rw [List.map_cons] at h ⊢
        rcases List.mem_cons.mp h with e | e
        · exact List.mem_cons.mpr (.inl e)
        · exact List.mem_cons_of_mem _ (i2 g e)
theorem ag5 (f:Str) (v:V):∀ fs:List (Str×V),(a4X f v fs).length≤fs.length+1
  | []=>by simp [a4X]
  | (k,x) :: r=>by
    have ih:=ag5 f v r
    rw [show a4X f v ((k,x) :: r)=(if k=f then (k,v) :: r else (k,x) :: a4X f v r) from rfl]
    by_cases hk:k=f
    · rw [if_pos hk,List.length_cons,List.length_cons];omega
    · rw [if_neg hk,List.length_cons,List.length_cons];omega
theorem a4T.some_of {v:V} {o:Option Value} (r:a4T (some v) o):∃ u,o=some u∧RelV v u:=by
  cases o with
  | none=>exact (show False from r).elim
  | some u=>exact ⟨u,rfl,r⟩
theorem a4T.none_of {o:Option Value} (r:a4T none o):o=none:=by
  cases o with
  | none=>rfl
  | some u=>exact (show False from r).elim
theorem ayM {v:V} {u:Value} (r:RelV v u):PySem.W.handedIn u=true:=by
  cases v with
  | non=>cases (show u=Value.none from r);rfl
  | bl b=>cases (show u=Value.bool b from r);rfl
  | int i=>obtain ⟨t,e⟩:=(show ∃ t,u=Value.int i t from r);cases e;rfl
  | str x=>obtain ⟨t,e⟩:=(show ∃ t,u=Value.str x t from r);cases e;rfl
  | byt b=>obtain ⟨t,e⟩:=(show ∃ t,u=Value.bytes b t from r);cases e;rfl
  | flt b=>obtain ⟨t,e⟩:=(show ∃ t,u=Value.float b t from r);cases e;rfl
  | ref a=>cases (show u=Value.ref a from r);rfl
  | ty n=>cases (show u=Value.type n from r);rfl
section
variable {P:Program} {w:World} {H H':Hp} {h h':Heap} {a C dx:Addr} {fs fs':List (Str×V)}
theorem ao0 (hok:HOk P w H h) (e:H a=some (.ins C dx fs)):∃ mA,auO h a dx C mA∧(∀ f,a4T (fs.lookup f) (mA f))∧PySem.Within mA (fs.map (·.1))∧fs.length≤1000∧H dx=some (.own a):=by
  obtain ⟨d,z,ne,ob,mA,n,r,q⟩:=(show oJ P w H h a (.ins C dx fs) from hok a _ e)
  exact ⟨mA,⟨ob,n,ne⟩,r,q,z,d⟩
end
structure Cls (K:PySem.W.Frag) (C:Addr):Prop where
  pg:PySem.W.plainGet K C Str.empty=true
  hd:PySem.W.hasDictIn K C=true
  po:PySem.W.plainOver K C=true
  sa:PySem.W.findIn K (.ref C) "__setattr__" = some (some (.builtin "object.__setattr__"))
theorem Cls.get {K:PySem.W.Frag} {C:Addr} (c:Cls K C) (f:Str):PySem.W.plainGet K C f=true:=c.pg
def uU (K:PySem.W.Frag) (C:Addr) (f:Str):Prop:=PySem.W.findIn K (.ref C) f=some none
theorem uU.taker {K:PySem.W.Frag} {C:Addr} {f:Str} (n:uU K C f):PySem.W.takerIn K C f=some none:=by
  unfold PySem.W.takerIn
  rw [show PySem.W.findIn K (.ref C) f=some none from n]
  rfl
structure Meth (K:PySem.W.Frag) (C:Addr) (m:Str) (f:Addr):Prop where
  at_:PySem.W.findIn K (.ref C) m=some (some (.ref f))
  fn:PySem.W.isFn K (.ref f)=true
  kp:PySem.W.keepIn K (.ref f)=true
section
variable {X:Cx} {pins:List (Addr×Obj)} {σ:St} {H:Hp} {s:Shared} {a C dx:Addr} {fs:List (Str×V)} {f:Str} {v:V} {A:Around} {E:Value→Shared→Prop}
theorem auP {b:Bool} {Q:Value→Shared→Prop} (I:Inv X pins σ H s) (e:H a=some (.ins C dx fs)) (c:Cls X.K C) (n:uU X.K C f) (l:fs.lookup f=some v)
    (h:∀ u s',Inv X pins σ H s'→RelV v u→Q u s'):wpAny (model X.prog X.w) A (getAttr (.ref a) f b) Q E s:=by
  obtain ⟨mA,O,r,_,_,_⟩:=ao0 I.hok e
  obtain ⟨u,hu,ru⟩:=a4T.some_of (v:=v) (o:=mA f) (by rw [← l];exact r f)
  exact get_map I.kIn O (c.get f) c.hd n hu (ayM ru) (h u _ (I.tok _) ru)
theorem aiL {m:Str} {g:Addr} {pl:Sem Bool} {Q:Value×List Value→Shared→Prop} (I:Inv X pins σ H s) (e:H a=some (.ins C dx fs)) (c:Cls X.K C) (k:Meth X.K C m g) (l:fs.lookup m=none)
    (h:Q (.ref g,[.ref a]) s):wpAny (model X.prog X.w) A (getMethod (.ref a) m pl) Q E s:=by
  obtain ⟨mA,O,r,_,_,_⟩:=ao0 I.hok e
  have hn:mA m=none:=a4T.none_of (by rw [← l];exact r m)
  exact aAU I.kIn O (c.get m) k.at_ k.fn hn h
theorem auQ {y:V} {u:Value} {Q:Unit→Shared→Prop} (I:Inv X pins σ H s) (e:H a=some (.ins C dx fs)) (c:Cls X.K C) (n:uU X.K C f) (hl:fs.length < 1000) (ry:RelV y u)
    (h:∀ s',Inv X pins σ (upd H a (.ins C dx (a4X f y fs))) s'→Q () s'):wpAny (model X.prog X.w) A (setAttr (.ref a) f u) Q E s:=by
  obtain ⟨mA,O,r,wi,_,ho⟩:=ao0 I.hok e
  have hz:(fs.map (·.1)).length≤sizeLine:=by rw [List.length_map,sizeLine_eq];omega
  refine aF6 I.kIn O c.sa c.po n.taker c.hd wi hz fun h' O' sb=>h _ ?_
  have hd:∃ o,h'.get? dx=some o:=let ⟨o,_,_,e',_⟩:=O'.ns;⟨o,e'⟩
  refine I.write (x:=a) (e:=dx) (by rw [e];exact True.intro) (.inr ho) (fun b q hb z=>(sb.2 b hb).trans z) hd ?_
  refine ⟨by rw [dF O.ne];exact ho,?_,O.ne,O'.obj,_,O'.ns,fun g=>?_,fun g hg=>?_⟩
  · have:=ag5 f y fs;omega
  · show a4T ((a4X f y fs).lookup g) (if g=f then some u else mA g)
    rw [ag4]
    by_cases q:g=f
    · rw [if_pos q,if_pos q];exact ry
    · rw [if_neg q,if_neg q];exact r g
  · by_cases q:g=f
    · rw [q];exact (aeN f y fs).1
    · refine (aeN f y fs).2 g (wi g fun z=>hg ?_)
      show (if g=f then some u else mA g)=none
      rw [if_neg q];exact z
theorem Inv.made (I:Inv X pins σ H s):Inv X pins σ (upd (upd H s.heap.objs.size (.own (s.heap.objs.size+1))) (s.heap.objs.size+1) (.ins C s.heap.objs.size []))
    { s with heap:=(s.heap.push PySem.W.emptyDict).push (PySem.W.instObj C s.heap.objs.size) }:=by
  have e1:(s.heap.push PySem.W.emptyDict).get? s.heap.objs.size=some PySem.W.emptyDict:=Heap.get?_push_size s.heap rfl
  have e2:((s.heap.push PySem.W.emptyDict).push (PySem.W.instObj C s.heap.objs.size)).get? (s.heap.objs.size+1)=some (PySem.W.instObj C s.heap.objs.size):=by
    have:=Heap.get?_push_size (s.heap.push PySem.W.emptyDict) (o:=PySem.W.instObj C s.heap.objs.size) rfl
    rwa [Heap.size_push] at this
  have e3:(s.heap.push PySem.W.emptyDict).Ns s.heap.objs.size (fun _=>none):=⟨PySem.W.emptyDict,#[],_,e1,rfl,(fun e he=>absurd he (by simp)),fun _=>rfl⟩
  have I1:=I.laid (a:=s.heap.objs.size) (o := .own (s.heap.objs.size+1)) (h':=s.heap.push PySem.W.emptyDict) (t':=s.toks) (fun b u q=>Heap.get?_push_of_some _ q) (Nat.le_refl _) ⟨_,e1⟩
  refine I1.laid (a:=s.heap.objs.size+1) (o := .ins C s.heap.objs.size []) (t':=s.toks) (fun b u q=>Heap.get?_push_of_some _ q) (Nat.le_of_eq (Heap.size_push _ _)) ?_
  have ne:s.heap.objs.size≠s.heap.objs.size+1:=Nat.ne_of_lt (Nat.lt_succ_self _)
  refine ⟨by rw [dF ne,aV],Nat.zero_le _,ne,e2,fun _=>none,(Heap.Ns1.of_empty e3).at fun o q=>Heap.get?_push_of_some _ q,fun _=>True.intro,fun y hy=>absurd rfl hy⟩
theorem aF7 {prog:Program} {w:World} {env:Env} {e:Expr} {f:Str} {pos:Pos} {s:Shared} {Q:Value→Shared→Prop} (hb:attributeBase e f env (eval e env)=eval e env)
    (h:wpAny (model prog w) A (eval e env) (fun o s₁=>wpAny (model prog w) A (getAttr o f true) Q E s₁) E s):wpAny (model prog w) A (eval (.Attribute e f pos) env) Q E s :=
  Attribute_any_ h (by rw [arm_eval_Attribute,hb])
end
def aWZ (K:PySem.W.Frag) (ta:TE) (f:Str):TE:=fun σ H Q=>ta σ H fun x H1=>∃ a C dx fs v,x = .ref a∧H1 a=some (.ins C dx fs)∧Cls K C∧uU K C f∧fs.lookup f=some v∧Q v H1
def aX0 (K:PySem.W.Frag) (ta tv:TE) (f:Str):TS:=fun D σ H=>tv σ H fun y H1=>ta σ H1 fun x H2=>∃ a C dx fs,x = .ref a∧H2 a=some (.ins C dx fs)∧Cls K C∧uU K C f∧fs.length < 1000 ∧
  D.nx σ (upd H2 a (.ins C dx (a4X f y fs)))
section
variable {X:Cx} {o e value:Expr} {f:Str} {pos pos' tpos:Pos} {ta tv:TE}
theorem aM7 (he:PE X e ta) (hb:attributeBase e f X.env (eval e X.env)=eval e X.env):PE X (.Attribute e f pos) (aWZ X.K ta f):=by
  intro pins s σ H Q I h
  refine aF7 hb (kY (he pins s σ H _ I h) fun u s1 ⟨x,H1,I1,rx,a,C,dx,fs,v,ex,ea,c,n,l,q⟩=>?_)
  subst ex
  obtain rfl:u=Value.ref a:=rx
  exact auP I1 ea c n l fun u' s2 I2 ru=>⟨v,H1,I2,ru,q⟩
theorem aM8 (ha:PE X o ta) (hv:PE X value tv) (hs:swapsWith value (some (.Attribute o f pos')) pos.line X.env=pure false):PS X (.Assign [.Attribute o f pos'] value pos) (aX0 X.K ta tv f):=by
  intro pins s σ H D I h
  refine plainObj_wpAny_Assign_Attribute (kY (hv pins s σ H _ I h) fun u s1 ⟨y,H1,I1,ry,q⟩=>kY (ha pins s1 σ H1 _ I1 q) fun ov s2 ⟨x,H2,I2,rx,a,C,dx,fs,ex,ea,c,n,l,q2⟩=>?_) hs
  subst ex
  obtain rfl:ov=Value.ref a:=rx
  exact auQ I2 ea c n l ry fun s3 I3=>⟨σ,_,I3,q2⟩
end
section
variable {X:Cx} {pins:List (Addr×Obj)} {σ:St} {H:Hp} {s:Shared} {A:Around} {E:Value→Shared→Prop} {Q:Value→Shared→Prop} {c:Value} {b:Bool}
end
end L2
namespace L2
open PySem PySem.Spec PyProof.Rows
structure oO (qt:Bool) (k:Nat) (A:Around):Prop where
  hd:qt=false→A.handled=none
  dp:A.depth+3 * k+5 < recursionLimit
  un:A.units+16 * k+200 < cLine
theorem oO.mono {j k:Nat} {A:Around} (r:oO qt k A) (h:j≤k):oO qt j A:=⟨r.hd,by have:=r.dp;omega,by have:=r.un;omega⟩
theorem oO.deeper {k:Nat} {A:Around} (r:oO qt (k+1) A) (env:Env):oO qt k (A.deeper env) :=
  ⟨r.hd,by have:=r.dp;show A.depth+1+3 * k+5 < _;omega,by have:=r.un;show A.units+3+16 * k+200 < _;omega⟩
theorem oO.in1 {k:Nat} {A:Around} (r:oO qt (k+1) A):oO qt k A.in1 :=
  ⟨r.hd,by have:=r.dp;show A.depth+3 * k+5 < _;omega,by have:=r.un;show A.units+1+16 * k+200 < _;omega⟩
theorem auR {A:Around} {C:Addr} {us:List Value} {kw:List (Str×Value)}:(A.under (.builtin "type.__call__" ⟨.ref C :: us,kw⟩)).depth=A.depth+1:=by
  first | rfl | simp [Around.under,Code.weight,Code.isCreation,Code.isGuard,Code.isCaller,Code.frames,Code.isFrame,guardIds]
theorem auS {A:Around} {C:Addr} {us:List Value} {kw:List (Str×Value)}:(A.under (.builtin "type.__call__" ⟨.ref C :: us,kw⟩)).units=A.units+1:=by
  first | rfl | simp [Around.under,Code.cUnits,Code.frames,Code.isFrame]
theorem oO.make {k:Nat} {A:Around} (r:oO qt (k+1) A) (C:Addr) (us:List Value) (kw:List (Str×Value)):oO qt k (A.under (.builtin "type.__call__" ⟨.ref C :: us,kw⟩)) :=
  ⟨r.hd,by have:=r.dp;rw [auR];omega,by have:=r.un;rw [auS];omega⟩
theorem oO.depth {k:Nat} {A:Around} (r:oO qt k A):A.depth < recursionLimit:=by have:=r.dp;omega
theorem oO.units {k:Nat} {A:Around} (r:oO qt k A):A.units+64 < cLine:=by have:=r.un;omega
def aX1:TA:=fun _ H Q=>Q [] H
def aRV (ta:TE) (tr:TA):TA:=fun σ H Q=>ta σ H fun x H1=>tr σ H1 fun xs H2=>Q (x :: xs) H2
section
variable {X:Cx} {e:Expr} {es:List Expr} {te:TE} {t:TA} {pos:Pos}
theorem aM9:PA X [] aX1:=fun _ _ _ _ H Q I h=>Calls.spliced_nil ⟨[],H,I,.nil,h⟩
theorem aF8 (ha:PE X e te) (hr:PA X es t) (hs:starEach (e :: es) X.env=(false,eval e X.env) :: starEach es X.env:=by rfl):PA X (e :: es) (aRV te t):=by
  intro pos pins s σ H Q I h
  rw [hs]
  show wpAny _ _ (spliced ((false,eval e X.env) :: backTo pos (starEach es X.env))) _ _ s
  refine Calls.spliced_cons (kY (ha pins s σ H _ I h) fun u s1 ⟨x,H1,I1,r1,q1⟩=>?_)
  exact kY (hr pos pins s1 σ H1 _ I1 q1) fun us s2 ⟨xs,H2,I2,r2,q2⟩=>⟨x :: xs,H2,I2,.cons r1 r2,q2⟩
def aX2 (t:TA):TE:=fun σ H Q=>t σ H fun xs H1=>xs.length≤sizeLine∧∀ p,H1 p=none→Q (.ref p) (upd H1 p (.tup xs))
def aX3 (t:TA):TE:=fun σ H Q=>t σ H fun xs H1=>xs.length≤sizeLine∧∀ p,H1 p=none→Q (.ref p) (upd H1 p (.lst xs))
theorem aMA {x1} (h:PA X es t):PE X (.Tuple es x1 pos) (aX2 t):=by
  intro pins s σ H Q I hq
  refine wpAny_Tuple_spliced (kY (h pos pins s σ H _ I hq) fun us s1 ⟨xs,H1,I1,r,z,q⟩=>⟨by rw [← r.length];exact z,?_⟩)
  have hf:H1 s1.heap.objs.size=none:=I1.hok.fresh (Nat.le_refl _)
  refine ⟨.ref s1.heap.objs.size,upd H1 s1.heap.objs.size (.tup xs),I1.laid (t':=s1.toks) (fun b u e=>Heap.get?_push_of_some _ e) (Nat.le_refl _) ?_,rfl,q _ hf⟩
  exact ⟨z,us,r,⟨_,Heap.get?_push_size _ rfl,rfl,_,rfl⟩⟩
theorem aMB (h:PA X es t):PE X (.List es pos) (aX3 t):=by
  intro pins s σ H Q I hq
  refine wpAny_List_spliced (kY (h pos pins s σ H _ I hq) fun us s1 ⟨xs,H1,I1,r,z,q⟩=>⟨by rw [← r.length];exact z,?_⟩)
  have hf:H1 s1.heap.objs.size=none:=I1.hok.fresh (Nat.le_refl _)
  refine ⟨.ref s1.heap.objs.size,upd H1 s1.heap.objs.size (.lst xs),I1.laid (t':=s1.toks) (fun b u e=>Heap.get?_push_of_some _ e) (Nat.le_refl _) ?_,rfl,q _ hf⟩
  exact ⟨z,us,0,r,Heap.get?_push_size _ rfl⟩
end
abbrev Sp:=List V→Hp→VK→XK→Prop
abbrev CXT:=List Env→Hp→Shared→XK→Value→Shared→Prop
structure alF (P:Program) (w:World) (K:PySem.W.Frag) (mg:Str→Option Value) (base:Heap) (A:Around) (outer:List Env) (s:Shared) (H:Hp):Prop where
  frames:A.frames=some outer
  mod:Mod K mg base
  bs:∀ b o,base.get? b=some o→s.heap.get? b=some o∧H b=none
  bsz:base.objs.size≤s.heap.objs.size
  a4V:s.heap.FunFrames base outer
  frf:∀ b∈frs outer,H b=none
  hok:HOk P w H s.heap
  bare:AllBare s.gens
  hnd:Hnd A H
def CE (outer:List Env) (P:Program) (w:World) (H:Hp) (s:Shared) (Q:VK) (u:Value) (s':Shared):Prop :=
  ∃ v H',s'.os=s.os∧AllBare s'.gens∧Un (frs outer) [] H H' s.heap s'.heap∧HOk P w H' s'.heap∧RelV v u∧Q v H'
def CR (CX:CXT) (outer:List Env) (P:Program) (w:World) (H:Hp) (s:Shared) (Q:VK) (E:XK) (r:Result) (s':Shared):Prop :=
  match r with
  | .ok (.ret u)=>CE outer P w H s Q u s'
  | .ok _=>False
  | .error e=>CX outer H s E e s'
structure dH (qt:Bool) (P:Program) (w:World) (K:PySem.W.Frag) (mg:Str→Option Value) (base:Heap) (CX:CXT) (k:Nat) (f:Addr) (fd:FuncData) (ps:List Str) (sp:Sp):Prop where
  len:∀ vs H Q E,sp vs H Q E→vs.length=ps.length
  run:∀ (A:Around) (outer:List Env) (s:Shared) (H:Hp) (args:Args) (us:List Value) (vs:List V) (Q:VK) (E:XK),oO qt k A→alF P w K mg base A outer s H→BindsTo s fd args (ps.zip us)→Vals vs us→sp vs H Q E →
    codeAny (model P w) A (.call (.ref f) args) (CR CX outer P w H s Q E) s
theorem dH.mono {P:Program} {w:World} {K:PySem.W.Frag} {mg:Str→Option Value} {base:Heap} {CX:CXT} {j k:Nat} {f:Addr} {fd:FuncData} {ps:List Str} {sp:Sp} (F:dH qt P w K mg base CX j f fd ps sp) (h:j≤k) :
    dH qt P w K mg base CX k f fd ps sp:=⟨F.len,fun A outer s H args us vs Q E hr=>F.run A outer s H args us vs Q E (hr.mono h)⟩
theorem dH.imp {P:Program} {w:World} {K:PySem.W.Frag} {mg:Str→Option Value} {base:Heap} {CX:CXT} {k:Nat} {f:Addr} {fd:FuncData} {ps:List Str} {sp sp':Sp} (F:dH qt P w K mg base CX k f fd ps sp)
    (h:∀ vs H Q E,sp' vs H Q E→sp vs H Q E):dH qt P w K mg base CX k f fd ps sp' :=
  ⟨fun vs H Q E q=>F.len vs H Q E (h _ _ _ _ q),fun A outer s H args us vs Q E hr he hb hv hs=>F.run A outer s H args us vs Q E hr he hb hv (h _ _ _ _ hs)⟩
theorem alF.make {P:Program} {w:World} {K:PySem.W.Frag} {mg:Str→Option Value} {base:Heap} {A:Around} {outer:List Env} {s:Shared} {H:Hp} (e:alF P w K mg base A outer s H) (C:Addr) (us:List Value) (kw:List (Str×Value)) :
    alF P w K mg base (A.under (.builtin "type.__call__" ⟨.ref C :: us,kw⟩)) outer s H:=⟨by first | exact e.frames | (simpa [Around.under,Code.envs,Code.isFrame,pushEnvs] using e.frames),e.mod,e.bs,e.bsz,e.a4V,e.frf,e.hok,e.bare,e.hnd⟩
theorem alF.in1 {P:Program} {w:World} {K:PySem.W.Frag} {mg:Str→Option Value} {base:Heap} {A:Around} {outer:List Env} {s:Shared} {H:Hp} (e:alF P w K mg base A outer s H) :
    alF P w K mg base A.in1 outer s H:=⟨e.frames,e.mod,e.bs,e.bsz,e.a4V,e.frf,e.hok,e.bare,e.hnd⟩
section
variable {X:Cx} {pins:List (Addr×Obj)} {σ:St} {H:Hp} {s s':Shared}
theorem Inv.env0 (I:Inv X pins σ H s):alF X.prog X.w X.K X.mg X.base X.A X.stack s H :=
  ⟨I.ok.frames,I.ok.mod,I.bs,Nat.le_trans I.ok.bsz I.sz,I.stack,I.anU,I.hok,I.bare,I.hnd⟩
theorem Inv.after {Q:VK} {u:Value} (I:Inv X pins σ H s) (h:CE X.stack X.prog X.w H s Q u s'):EP X pins σ Q u s':=by
  obtain ⟨v,H',os,bare,un,hok,r,q⟩:=h
  obtain ⟨hh,g,d,t,os'⟩:=s'
  obtain rfl:os'=s.os:=os
  exact ⟨v,H',I.call (h':=hh) (g':=g) (d':=d) (t':=t) (ch:=[]) un hok bare (fun b z=>absurd z (by simp)),r,q⟩
end
def Binds (K:PySem.W.Frag) (fd:FuncData) (ps:List Str) (ds:List Value):Prop :=
  ∀ (s:Shared) (us:List Value),K.In s.heap→(us++ds).length=ps.length→BindsTo s fd ⟨us,[]⟩ (ps.zip (us++ds))
theorem Binds.all {K:PySem.W.Frag} {fd:FuncData} {ps:List Str} (h:∀ us:List Value,us.length=ps.length→bindArgs fd ⟨us,[]⟩=pure (ps.zip us)):Binds K fd ps []:=fun s us _ hl=>by
  rw [List.append_nil] at hl ⊢
  exact .of_eq (h us hl)
section
variable {X:Cx} {CX:CXT} {k:Nat} {f C:Addr} {fd:FuncData} {ps:List Str} {sp:Sp} {dvs:List V} {ds:List Value} {E:XK} {x m:Str} {p pos apos:Pos} {e o:Expr} {es:List Expr} {ta:TE} {t:TA}
structure Mk (K:PySem.W.Frag) (C f:Addr):Prop where
  makes:PySem.W.makesIn K C=true
  init:PySem.W.findIn K (.ref C) "__init__" = some (some (.ref f))
  fn:PySem.W.isFn K (.ref f)=true
  kp:PySem.W.keepIn K (.ref C)=true
end
section
variable {X:Cx} {CX:CXT} {k:Nat} {f C:Addr} {fd:FuncData} {ps ks:List Str} {sp:Sp} {E:XK} {x m:Str} {p pos apos kpos:Pos} {e o:Expr} {es:List Expr} {kws:List Keyword} {te ta:TE} {t tk:TA} {nm:Option Str}
variable {g:List Value→List Value→List Value} {gV:List V→List V→List V}
end
structure bI (N P:List Str) (sc:Scope):Prop where
  kind:sc.kind = .function
  co:sc.isCoroutine=false
  gen:sc.isGenerator=false
  nd:N.Nodup
  pre:N.take P.length=P
  par:∀ x∈P,sc.names.lookup x=some .local∨sc.names.lookup x=some .cell
  aMC:∀ y∈sc.names,y.2 ≠ .free
theorem amE {kindOf:Str→Option NameKind} {x:Str}:∀ {binds:List (Str×Value)} {m:Str→Option Value},(∀ v,(x,v) ∉ binds)→bindL kindOf binds m x=m x
  | [],_,_=>rfl
  | (n,v) :: r,m,h=>by
    unfold bindL
    rw [amE fun w hw=>h w (List.mem_cons_of_mem _ hw)]
    split
    · have:x≠n:=by rintro rfl;exact h v List.mem_cons_self
      simp [this]
    · rfl
theorem amF {kindOf:Str→Option NameKind} {x:Str}:∀ {binds:List (Str×Value)} {m:Str→Option Value},(∀ v,(x,v) ∉ binds)→bindC kindOf binds m x=m x
  | [],_,_=>rfl
  | (n,v) :: r,m,h=>by
    unfold bindC
    rw [amF fun w hw=>h w (List.mem_cons_of_mem _ hw)]
    split
    · rfl
    · have:x≠n:=by rintro rfl;exact h v List.mem_cons_self
      simp [this]
theorem amG {kindOf:Str→Option NameKind} {x:Str} {v:Value}:∀ {P:List Str} {vs:List Value} {i:Nat} {m:Str→Option Value},P.Nodup→P[i]?=some x→vs[i]?=some v→kindOf x=some .local →
    bindL kindOf (P.zip vs) m x=some v
  | [],_,_,_,_,h,_,_=>by simp at h
  | _ :: _,[],_,_,_,_,h,_=>by simp at h
  | p :: P,w :: vs,0,m,nd,h1,h2,hk=>by
    simp at h1 h2;subst h1;subst h2
    show bindL kindOf ((p,w) :: P.zip vs) m p=_
    unfold bindL
    rw [amE fun v hv=>(List.nodup_cons.mp nd).1 (List.of_mem_zip hv).1,if_pos hk]
    simp
  | p :: P,w :: vs,i+1,m,nd,h1,h2,hk=>by
    show bindL kindOf ((p,w) :: P.zip vs) m x=_
    unfold bindL
    exact amG (i:=i) (List.nodup_cons.mp nd).2 (by simpa using h1) (by simpa using h2) hk
theorem amH {kindOf:Str→Option NameKind} {x:Str} {v:Value}:∀ {P:List Str} {vs:List Value} {i:Nat} {m:Str→Option Value},P.Nodup→P[i]?=some x→vs[i]?=some v→kindOf x≠some .local →
    bindC kindOf (P.zip vs) m x=some v
  | [],_,_,_,_,h,_,_=>by simp at h
  | _ :: _,[],_,_,_,_,h,_=>by simp at h
  | p :: P,w :: vs,0,m,nd,h1,h2,hk=>by
    simp at h1 h2;subst h1;subst h2
    show bindC kindOf ((p,w) :: P.zip vs) m p=_
    unfold bindC
    rw [amF fun v hv=>(List.nodup_cons.mp nd).1 (List.of_mem_zip hv).1,if_neg hk]
    simp
  | p :: P,w :: vs,i+1,m,nd,h1,h2,hk=>by
    show bindC kindOf ((p,w) :: P.zip vs) m x=_
    unfold bindC
    exact amH (i:=i) (List.nodup_cons.mp nd).2 (by simpa using h1) (by simpa using h2) hk
def start (N:List Str) (vs:List V):St:=vs.map some++List.replicate (N.length - vs.length) none
def a0Y (qt:Bool) (CX:CXT) (P:Program) (w:World) (K:PySem.W.Frag) (mg:Str→Option Value) (base:Heap) (N:List Str) (qual:Str) (scope:Scope) (f:Addr) (cd:Value) (A:Around) (outer:List Env) (s:Shared) (H:Hp) (E:XK):Cx where
  prog:=P
  w:=w
  K:=K
  mg:=mg
  base:=base
  A:=A.deeper (envOfC qual scope s.heap.objs.size f cd)
  N:=N
  s₀:=s
  H₀:=H
  env:=envOfC qual scope s.heap.objs.size f cd
  outer:=outer
  stack:=envOfC qual scope s.heap.objs.size f cd :: outer
  ex:=[]
  calm:=!qt
  fn:=fun _=>true
  pn:=[]
  tp:=[]
  xe:=fun e s'=>wpAny (model P w) (A.deeper (envOfC qual scope s.heap.objs.size f cd)) (leaving (envOfC qual scope s.heap.objs.size f cd) e) (fun _ s''=>CX outer H s E e s'') (fun e' s''=>CX outer H s E e' s'') s'
theorem aqS {sc:Scope} {n:Nat} {x:Str} (h:sc.names.lookup x=some .cell):∃ c,(cellsFrom n sc.names []).lookup x=some c:=by
  have q:=PySem.W.cellsFrom_some sc.names n [] (.inl h)
  exact Option.isSome_iff_exists.mp q
theorem ayN {CX:CXT} {P:Program} {w:World} {K:PySem.W.Frag} {mg:Str→Option Value} {base:Heap} {N ps:List Str} {qual:Str} {scope:Scope} {f:Addr} {cd:Value} {A:Around} {outer:List Env} {s s1:Shared} {H:Hp} {E:XK} {us:List Value} {vs:List V}
    (S:bI N ps scope) (hd:qt=false→A.handled=none) (e0:alF P w K mg base A outer s H) (hl:vs.length=ps.length) (r:Vals vs us)
    (x:InCallC s s.heap.objs.size (bindL (envOfC qual scope s.heap.objs.size f cd).kindOf (ps.zip us) fun _=>none) (cellsFrom (s.heap.objs.size+1) scope.names []) (bindC (envOfC qual scope s.heap.objs.size f cd).kindOf (ps.zip us) fun _=>none) s1) :
    Inv (a0Y qt CX P w K mg base N qual scope f cd A outer s H E) [] (start N vs) H s1:=by
  have hpl:ps.length≤N.length:=by have:=congrArg List.length S.pre;rw [List.length_take] at this;omega
  obtain ⟨h1,tk,rfl,hk⟩:=x.done
  have noA:∀ b:Addr,b ∉ (a0Y qt CX P w K mg base N qual scope f cd A outer s H E).ex:=fun b z=>absurd (show b∈([]:List Addr) from z) (by simp)
  refine ⟨⟨e0.mod,S.kind,rfl,rfl,Nat.le_refl _,fun y z c h1 h2=>?_,fun y hy=>?_,fun y c _ h=>?_,fun z=>hd (by cases qt with | false=>rfl | true=>cases z),Around.frames_deeper e0.frames,.inr ⟨rfl,rfl⟩,fun b z=>absurd z (noA b),e0.bs,e0.bsz,fun b _ _=>noA b,fun b z=>absurd z (noA b),e0.a4V,e0.frf⟩,
    rfl,e0.bare,Un.kept hk,⟨_,x.toInCall.ns,fun i y v h1 h2 h3=>?_⟩,fun y c h=>⟨_,x.cell y c h⟩,e0.hok.fresh (Nat.le_refl _),fun y c h=>?_,fun p hp=>absurd (show p∈([]:List (Addr×Obj)) from hp) (by simp),e0.hok.kept hk,?_,e0.hnd,fun p hp=>absurd (show p∈([]:List (Addr×List V)) from hp) (by simp)⟩
  · exact name_of_addr x.apart (PySem.mem_of_lookup h1) (PySem.mem_of_lookup h2)
  · have hy:scope.names.lookup y=some .cell∨scope.names.lookup y=some .free:=hy
    rcases hy with hy | hy
    · exact aqS hy
    · exact absurd rfl (S.aMC _ (PySem.mem_of_lookup hy))
  · exact Nat.le_of_lt (x.above y c (PySem.mem_of_lookup h))
  · have hi:i < vs.length:=by
      unfold start at h2
      by_cases hi:i < vs.length
      · exact hi
      · rw [List.getElem?_append_right (by simpa using hi)] at h2
        rw [List.getElem?_replicate] at h2
        split at h2 <;> cases h2
    have ha:vs[i]?=some v:=by
      unfold start at h2
      rw [List.getElem?_append_left (by simpa using hi),List.getElem?_map] at h2
      cases e:vs[i]? with
      | none=>rw [e] at h2;cases h2
      | some a=>rw [e] at h2;cases h2;rfl
    obtain ⟨u,hu,rv⟩:=r.get ha
    have hp:ps[i]?=some y:=by
      rw [← S.pre,List.getElem?_take_of_lt (by omega)];exact h1
    have ndP:ps.Nodup:=by rw [← S.pre];exact S.nd.sublist (List.take_sublist _ _)
    refine ⟨u,rv,?_⟩
    rcases S.par y (List.mem_of_getElem? hp) with k | k
    · exact .inl ⟨k,amG ndP hp hu k⟩
    · obtain ⟨c,e⟩:=aqS (n:=s.heap.objs.size+1) k
      refine .inr ⟨.inl k,c,e,?_⟩
      have q:=x.cell y c e
      rw [amH ndP hp hu (by show scope.names.lookup y≠_;rw [k];decide)] at q
      exact q
  · exact e0.hok.fresh (Nat.le_of_lt (x.above y c (PySem.mem_of_lookup h)))
  · unfold start
    show _=N.length
    rw [List.length_append,List.length_map,List.length_replicate]
    omega
theorem aJZ {CX:CXT} {P:Program} {w:World} {K:PySem.W.Frag} {mg:Str→Option Value} {base:Heap} {k:Nat} {f:Addr} {name qual:Str} {params:Arguments} {body:List Stmt} {scope:Scope} {dV kV doc pm cdv ct oc:Value} {an od:Option Addr}
    {osl:Array (Option Value)} {N ps:List Str} {sp:Sp} (lk:K.lookup f=some ⟨oc,od,.func (PySem.W.fnOf name qual params body scope dV kV doc pm an cdv ct),osl⟩) (hcd:PySem.W.codeIn K cdv qual=true) (S:bI N ps scope)
    (len:∀ vs H Q E,sp vs H Q E→vs.length=ps.length)
    (hbody:∀ (A:Around) (outer:List Env) (s:Shared) (H:Hp) (vs:List V) (Q:VK) (E:XK),oO qt k (A.deeper (envOfC qual scope s.heap.objs.size f cdv))→sp vs H Q E →
      ∃ t,PSs (a0Y qt CX P w K mg base N qual scope f cdv A outer s H E) body t∧t { nx:=fun _ H'=>Q .non H',rt:=Q } (start N vs) H) :
    dH qt P w K mg base CX (k+1) f (PySem.W.fnOf name qual params body scope dV kV doc pm an cdv ct) ps sp:=by
  refine ⟨len,fun A outer s H args us vs Q E hr e0 hb r hsp=>?_⟩
  have hl:=len _ _ _ _ hsp
  have KX:K.In s.heap:=e0.mod.kin.keeps fun b o e=>(e0.bs b o e).1
  have lim:s.heap.NoLimit:=e0.mod.nolimit.keeps fun b o e=>(e0.bs b o e).1
  have hkind:∀ y∈ps.zip us,scope.names.lookup y.1=some .local∨(scope.names.lookup y.1=some .cell∧((cellsFrom (s.heap.objs.size+1) scope.names []).lookup y.1).isSome=true):=fun ⟨n,v⟩ hy=>by
    rcases S.par n (List.of_mem_zip hy).1 with q | q
    · exact .inl q
    · exact .inr ⟨q,PySem.W.cellsFrom_some _ _ _ (.inl q)⟩
  refine codeAny_call_function hr.depth (KX _ _ lk) rfl S.co S.gen rfl (PySem.W.codeRec_of KX hcd) (hb _ _ _ _ ?_)
  refine wpAny_newFunctionEnv_cells S.kind hkind fun env he s1 x=>?_
  subst he
  refine ⟨lim.keeps x.toInCall.keep,codeAny_func ?_⟩
  obtain ⟨t,ht,hq⟩:=hbody A outer s H vs Q E (hr.deeper _) hsp
  have I:Inv (a0Y qt CX P w K mg base N qual scope f cdv A outer s H E) [] (start N vs) H s1:=ayN S hr.hd e0 hl r x
  refine wpAny_mono (ht [] s1 (start N vs) H _ I hq) (fun fl s' hs=>?_) fun e s' hs=>hs
  have fin:∀ {σ':St} {H':Hp} {v:V} {u:Value},Inv (a0Y qt CX P w K mg base N qual scope f cdv A outer s H E) [] σ' H' s'→RelV v u→Q v H'→CE outer P w H s Q u s' :=
    fun {σ' H' v u} J rv q=>⟨v,H',J.os,J.bare,J.base,J.hok,rv,q⟩
  cases fl with
  | ret u =>
    obtain ⟨v,σ',H',J,rv,q⟩:=hs
    exact fin J rv q
  | next =>
    obtain ⟨σ',H',J,q⟩:=hs
    exact fin (v:=V.non) (u:=Value.none) J rfl q
  | brk =>
    obtain ⟨_,_,_,q⟩:=hs
    exact False.elim q
  | cont =>
    obtain ⟨_,_,_,q⟩:=hs
    exact False.elim q
end L2
namespace L2
open PySem PySem.Spec PyProof.Rows
section
variable {X:Cx} {x:Str} {p pos:Pos} {e:Expr} {es:List Expr} {t:TA} {id T:String} {r:List V→Hp→VK→Prop}
end
end L2
namespace L2
open PySem PySem.Spec PyProof.Rows
section
variable {κ:Type} [DecidableEq κ]
def a7S (kvs:List (κ×V)) (k:κ):Option V:=(kvs.find? fun kv=>decide (kv.1=k)).map (·.2)
def putK (kvs:List (κ×V)) (k:κ) (v:V):List (κ×V) :=
  if (kvs.any fun kv=>decide (kv.1=k))=true then kvs.map (fun kv=>if kv.1=k then (kv.1,v) else kv) else kvs++[(k,v)]
def a6U (kvs:List (κ×V)) (k:κ):List (κ×V):=kvs.filter fun kv=>decide (kv.1≠k)
theorem a7Y {p:κ×V} {r:List (κ×V)} {k:κ} (e:p.1=k):a7S (p :: r) k=some p.2:=by simp [a7S,List.find?_cons,e]
theorem a7Z {p:κ×V} {r:List (κ×V)} {k:κ} (e:¬ p.1=k):a7S (p :: r) k=a7S r k:=by simp [a7S,List.find?_cons,e]
theorem aiM (k:κ):∀ kvs:List (κ×V),(kvs.any fun kv=>decide (kv.1=k))=(a7S kvs k).isSome
  | []=>rfl
  | p :: r=>by
    rw [List.any_cons]
    by_cases e:p.1=k
    · simp only [a7Y e,decide_eq_true e,Bool.true_or,Option.isSome_some]
    · rw [a7Z e,decide_eq_false e,Bool.false_or];exact aiM k r
theorem wM (kvs:List (κ×V)) (k:κ) (v:V):(putK kvs k v).length≤kvs.length+1:=by
  unfold putK
  split
  · rw [List.length_map];omega
  · rw [List.length_append,List.length_cons,List.length_nil];omega
theorem a4T.zK {o:Option V} {u:Option Value} (r:a4T o u):o.isSome=u.isSome:=by
  cases o with
  | none=>cases u with
    | none=>rfl
    | some _=>exact (show False from r).elim
  | some _=>cases u with
    | none=>exact (show False from r).elim
    | some _=>rfl
theorem a4T.getD {o:Option V} {u:Option Value} {d:V} {d':Value} (r:a4T o u) (rd:RelV d d'):RelV (o.getD d) (u.getD d'):=by
  cases o with
  | none=>cases u with
    | none=>exact rd
    | some _=>exact (show False from r).elim
  | some _=>cases u with
    | none=>exact (show False from r).elim
    | some _=>exact r
theorem KV.val {kvs:List (κ×V)} {vs:List (κ×Value)} (r:KV kvs vs) (k:κ):a4T (a7S kvs k) (valueAt vs k):=by
  unfold KV at r
  induction r with
  | nil=>exact True.intro
  | @cons p q ps qs h t ih =>
    obtain ⟨h1,h2⟩:=h
    by_cases e:p.1=k
    · have e':q.1=k:=h1.symm.trans e
      have b:valueAt (q :: qs) k=some q.2:=by simp [valueAt,List.find?_cons,e']
      rw [a7Y e,b];exact h2
    · have e':¬ q.1=k:=fun z=>e (h1.trans z)
      have b:valueAt (q :: qs) k=valueAt qs k:=by simp [valueAt,List.find?_cons,e']
      rw [a7Z e,b];exact ih
theorem KV.any {kvs:List (κ×V)} {vs:List (κ×Value)} (r:KV kvs vs) (k:κ):(kvs.any fun kv=>decide (kv.1=k))=vs.any fun kv=>decide (kv.1=k):=by
  unfold KV at r
  induction r with
  | nil=>rfl
  | cons h t ih=>rw [List.any_cons,List.any_cons,ih,h.1]
theorem KV.repl {kvs:List (κ×V)} {vs:List (κ×Value)} (r:KV kvs vs) (k:κ) {y:V} {u:Value} (ry:RelV y u) :
    KV (kvs.map fun kv=>if kv.1=k then (kv.1,y) else kv) (vs.map fun kv=>if kv.1=k then (kv.1,u) else kv):=by
  unfold KV at r ⊢
  induction r with
  | nil=>exact .nil
  | @cons p q ps qs h t ih =>
    rw [List.map_cons,List.map_cons]
    refine .cons ?_ ih
    obtain ⟨h1,h2⟩:=h
    by_cases e:p.1=k
    · rw [if_pos e,if_pos (h1.symm.trans e)];exact ⟨h1,ry⟩
    · rw [if_neg e,if_neg (fun z=>e (h1.trans z))];exact ⟨h1,h2⟩
theorem KV.put {kvs:List (κ×V)} {vs:List (κ×Value)} (r:KV kvs vs) (k:κ) {y:V} {u:Value} (ry:RelV y u):KV (putK kvs k y) (stored vs k u):=by
  unfold putK stored
  rw [r.any k]
  by_cases e:(vs.any fun kv=>decide (kv.1=k))=true
  · rw [if_pos e,if_pos e];exact r.repl k ry
  · rw [if_neg e,if_neg e];exact Paired.snoc r ⟨rfl,ry⟩
theorem KV.drop {kvs:List (κ×V)} {vs:List (κ×Value)} (r:KV kvs vs) (k:κ):KV (a6U kvs k) (without vs k):=by
  unfold KV at r ⊢
  unfold a6U without
  induction r with
  | nil=>exact .nil
  | @cons p q ps qs h t ih =>
    obtain ⟨h1,h2⟩:=h
    rw [List.filter_cons,List.filter_cons]
    by_cases e:p.1=k
    · have a:¬ decide (p.1≠k)=true:=by simp [e]
      have b:¬ decide (q.1≠k)=true:=by simp [h1.symm.trans e]
      rw [if_neg a,if_neg b];exact ih
    · have e':¬ q.1=k:=fun z=>e (h1.trans z)
      have a:decide (p.1≠k)=true:=by simp [e]
      have b:decide (q.1≠k)=true:=by simp [e']
      rw [if_pos a,if_pos b];exact .cons ⟨h1,h2⟩ ih
theorem KV.keys {kvs:List (κ×V)} {vs:List (κ×Value)} (r:KV kvs vs):kvs.map (·.1)=vs.map (·.1):=by
  unfold KV at r
  induction r with
  | nil=>rfl
  | cons h t ih=>rw [List.map_cons,List.map_cons,ih,h.1]
theorem KV.length {kvs:List (κ×V)} {vs:List (κ×Value)} (r:KV kvs vs):kvs.length=vs.length:=Paired.length r
theorem aiN (kvs:List (κ×V)) (k:κ):(a6U kvs k).length≤kvs.length:=List.length_filter_le _ _
end
theorem aaX {P:Program} {w:World} {k:Key} {u:Value} (r:RelV (kV k) u):(bF P w).is k u=true:=by
  cases k with
  | inl i=>obtain ⟨t,e⟩:=(show ∃ t,u=Value.int i t from r);subst e;exact aqO P w i t
  | inr x=>obtain ⟨t,e⟩:=(show ∃ t,u=Value.str x t from r);subst e;exact aqP P w x t
theorem amI {P:Program} {w:World}:∀ {ks:List Key} {us:List Value},Vals (ks.map kV) us→ItemsAre (bF P w) ks us
  | [],_,r=>by rw [List.map_nil] at r;cases r;exact .nil
  | k :: ks,_,r=>by
    rw [List.map_cons] at r
    cases r with
    | cons h t=>exact .cons (aaX h) (amI t)
abbrev KT (H:Hp):List (List Key×V)→List (List Key×Addr×Value)→Prop:=Paired fun p q=>p.1=q.1∧H q.2.1=some (.tup (p.1.map kV))∧RelV p.2 q.2.2
theorem KT.val {H:Hp} {kvs:List (List Key×V)} {xs:List (List Key×Addr×Value)} (r:KT H kvs xs) (k:List Key):a4T (a7S kvs k) ((atKey xs k).map (·.2)):=by
  induction r with
  | nil=>exact True.intro
  | @cons p q ps qs h t ih =>
    obtain ⟨h1,_,h2⟩:=h
    by_cases e:p.1=k
    · have e':q.1=k:=h1.symm.trans e
      have b:atKey (q :: qs) k=some q.2:=by simp [atKey,List.find?_cons,e']
      rw [a7Y e,b];exact h2
    · have e':¬ q.1=k:=fun z=>e (h1.trans z)
      have b:atKey (q :: qs) k=atKey qs k:=by simp [atKey,List.find?_cons,e']
      rw [a7Z e,b];exact ih
theorem KT.repl {H:Hp} {kvs:List (List Key×V)} {xs:List (List Key×Addr×Value)} (r:KT H kvs xs) (k:List Key) {y:V} {u:Value} (ry:RelV y u) :
    KT H (kvs.map fun kv=>if kv.1=k then (kv.1,y) else kv) (xs.map (putAt k u)):=by
  induction r with
  | nil=>exact .nil
  | @cons p q ps qs h t ih =>
    rw [List.map_cons,List.map_cons]
    refine .cons ?_ ih
    obtain ⟨h1,h2,h3⟩:=h
    unfold putAt
    by_cases e:p.1=k
    · rw [if_pos e,if_pos (h1.symm.trans e)];exact ⟨h1,h2,ry⟩
    · rw [if_neg e,if_neg (fun z=>e (h1.trans z))];exact ⟨h1,h2,h3⟩
theorem KT.put {H:Hp} {kvs:List (List Key×V)} {xs:List (List Key×Addr×Value)} (r:KT H kvs xs) (k:List Key) {b:Addr} {y:V} {u:Value} (hb:H b=some (.tup (k.map kV))) (ry:RelV y u) :
    KT H (putK kvs k y) (storedH xs k b u):=by
  have e:(kvs.any fun kv=>decide (kv.1=k))=(atKey xs k).isSome:=by
    rw [aiM,(r.val k).zK,Option.isSome_map]
  unfold putK storedH
  rw [e]
  by_cases q:(atKey xs k).isSome=true
  · rw [if_pos q,if_pos q];exact r.repl k ry
  · rw [if_neg q,if_neg q];exact Paired.snoc r ⟨rfl,hb,ry⟩
theorem KT.keeps {H H':Hp} {kvs:List (List Key×V)} {xs:List (List Key×Addr×Value)} (r:KT H kvs xs) (ht:∀ b ys,H b=some (.tup ys)→H' b=some (.tup ys)):KT H' kvs xs :=
  Paired.aLF r fun _ _ z=>⟨z.1,ht _ _ z.2.1,z.2.2⟩
section
variable {P:Program} {w:World} {H:Hp} {h:Heap} {a:Addr}
theorem aK0 {u:HO} (ok:HOk P w H h) (e:Rd H a u):oJ P w H h a u:=e.ok ok
theorem ag6 {kvs:List (Key×V)} (ok:HOk P w H h) (e:Rd H a (.dK kvs)):kvs.length≤sizeLine∧(a == sysModules)=false∧∃ vs,KV kvs vs∧h.DictOf (bF P w) a vs :=
  show oJ P w H h a (.dK kvs) from aK0 ok e
theorem ag7 {kvs:List (Key×V)} (ok:HOk P w H h) (e:H a=some (.dK kvs)):kvs.length≤sizeLine∧(a == sysModules)=false∧∃ vs,KV kvs vs∧h.DictOf (bF P w) a vs:=ag6 ok (.inl e)
theorem a4Y {ks:List Key} (ok:HOk P w H h) (e:H a=some (.tup (ks.map kV))):(tupleKind (bF P w)).is h ks a:=by
  obtain ⟨_,its,r,o,h1,h2,n,h3⟩:=(show oJ P w H h a (.tup (ks.map kV)) from ok a _ e)
  exact ⟨o,its.toArray,n,h1,h2,h3,by simpa using amI r⟩
theorem aiO {kvs:List (List Key×V)} (ok:HOk P w H h) (e:Rd H a (.dT kvs)):kvs.length≤sizeLine∧(a == sysModules)=false ∧
    ∃ xs,KT H kvs xs∧h.DictOfH (tupleKind (bF P w)) a xs:=by
  obtain ⟨z,y,xs,r,o,es,ep,h1,h2,h3,h4,h5⟩:=(show oJ P w H h a (.dT kvs) from aK0 ok e)
  refine ⟨z,y,xs,r,o,es,ep,h1,h2,h3,h4,fun x hx=>?_,h5⟩
  have all:∀ {l:List (List Key×V)} {m:List (List Key×Addr×Value)},KT H l m→∀ x∈m,(tupleKind (bF P w)).is h x.1 x.2.1:=by
    intro l m q
    induction q with
    | nil=>intro x hx;exact nomatch hx
    | @cons p q ps qs hq t ih =>
      intro x hx
      rcases List.mem_cons.mp hx with e | hx
      · subst e
        exact a4Y ok (by rw [← hq.1];exact hq.2.1)
      · exact ih x hx
  exact all r x hx
theorem amJ {kvs:List (List Key×V)} (ok:HOk P w H h) (e:H a=some (.dT kvs)):kvs.length≤sizeLine∧(a == sysModules)=false ∧
    ∃ xs,KT H kvs xs∧h.DictOfH (tupleKind (bF P w)) a xs:=aiO ok (.inl e)
end
def acO (H:Hp) (a:Addr) (y:V) (r:Option V):Prop :=
  (∃ kvs k,Rd H a (.dK kvs)∧y=kV k∧r=a7S kvs k)∨∃ kvs k b,Rd H a (.dT kvs)∧y = .ref b∧H b=some (.tup (k.map kV))∧r=a7S kvs k
def aqT (H:Hp) (a:Addr) (y v:V) (H':Hp):Prop :=
  (∃ kvs k,H a=some (.dK kvs)∧y=kV k∧kvs.length < sizeLine∧H'=upd H a (.dK (putK kvs k v))) ∨
  ∃ kvs k b,H a=some (.dT kvs)∧y = .ref b∧H b=some (.tup (k.map kV))∧kvs.length < sizeLine∧H'=upd H a (.dT (putK kvs k v))
theorem acO.k {H:Hp} {a:Addr} {kvs:List (Key×V)} {k:Key} (e:H a=some (.dK kvs)):acO H a (kV k) (a7S kvs k) := .inl ⟨kvs,k,.inl e,rfl,rfl⟩
theorem acO.t {H:Hp} {a b:Addr} {kvs:List (List Key×V)} {k:List Key} (e:H a=some (.dT kvs)) (eb:H b=some (.tup (k.map kV))):acO H a (.ref b) (a7S kvs k) := .inr ⟨kvs,k,b,.inl e,rfl,eb,rfl⟩
theorem aqT.k {H:Hp} {a:Addr} {kvs:List (Key×V)} {k:Key} {v:V} (e:H a=some (.dK kvs)) (hl:kvs.length < sizeLine):aqT H a (kV k) v (upd H a (.dK (putK kvs k v))) := .inl ⟨kvs,k,e,rfl,hl,rfl⟩
theorem aqT.t {H:Hp} {a b:Addr} {kvs:List (List Key×V)} {k:List Key} {v:V} (e:H a=some (.dT kvs)) (eb:H b=some (.tup (k.map kV))) (hl:kvs.length < sizeLine) :
    aqT H a (.ref b) v (upd H a (.dT (putK kvs k v))) := .inr ⟨kvs,k,b,e,rfl,eb,hl,rfl⟩
section
variable {X:Cx} {pins:List (Addr×Obj)} {σ:St} {H:Hp} {s:Shared} {a:Addr} {y v:V} {u r:Value} {o:Option V} {A:Around} {E:Value→Shared→Prop}
theorem Inv.big (I:Inv X pins σ H s):sysModules < s.heap.objs.size:=by
  have h:mainGlobals < s.heap.objs.size:=(I.mod.glob.keeps I.bk).lt
  exact Nat.lt_trans (by decide) h
theorem ayO {Q:Value→Shared→Prop} (hu:A.units+1 < cLine) (I:Inv X pins σ H s) (g:acO H a y (some v)) (ry:RelV y u) (h:∀ w' s',Inv X pins σ H s'→RelV v w'→Q w' s') :
    wpAny (model X.prog X.w) A (getItem (.ref a) u) Q E s:=by
  rcases g with ⟨kvs,k,e,ey,l⟩ | ⟨kvs,k,b,e,ey,eb,l⟩
  · subst ey
    obtain ⟨z,hd,vs,rel,dd⟩:=ag6 I.hok e
    obtain ⟨w',hw,rw'⟩:=a4T.some_of (v:=v) (o:=valueAt vs k) (by rw [l];exact rel.val k)
    exact wpAny_getItem_of (aaX ry) dd.mapOf hw (h w' _ (I.tok _) rw')
  · subst ey
    cases (show u=Value.ref b from ry)
    obtain ⟨z,hd,xs,rel,dd⟩:=aiO I.hok e
    obtain ⟨w',hw,rw'⟩:=a4T.some_of (v:=v) (o:=(atKey xs k).map (·.2)) (by rw [l];exact rel.val k)
    obtain ⟨p,hp,hp2⟩:=Option.map_eq_some_iff.mp hw
    refine wpAny_getItem_heap (tupleKind_room_in1 hu) (a4Y I.hok eb) dd hp ?_
    rw [hp2]
    exact h w' _ (I.tok _) rw'
theorem aX4 {Q:Value→Shared→Prop} (hu:A.units+1 < cLine) (I:Inv X pins σ H s) (g:acO H a y o) (ry:RelV y u) (h:∀ s',Inv X pins σ H s'→Q (.bool o.isSome) s') :
    wpAny (model X.prog X.w) A (compareOp .In u (.ref a)) Q E s:=by
  rcases g with ⟨kvs,k,e,ey,l⟩ | ⟨kvs,k,b,e,ey,eb,l⟩
  · subst ey
    obtain ⟨z,hd,vs,rel,dd⟩:=ag6 I.hok e
    refine wpAny_in_of (aaX ry) hd dd.mapOf ?_
    rw [← (rel.val k).zK,← l]
    exact h _ (I.tok _)
  · subst ey
    cases (show u=Value.ref b from ry)
    obtain ⟨z,hd,xs,rel,dd⟩:=aiO I.hok e
    refine wpAny_in_heap (tupleKind_room_in1 hu) (a4Y I.hok eb) hd dd ?_
    have q:=(rel.val k).zK
    rw [Option.isSome_map] at q
    rw [← q,← l]
    exact h _ (I.tok _)
theorem aF9 {Q:Value→Shared→Prop} (hu:A.units+1 < cLine) (I:Inv X pins σ H s) (g:acO H a y o) (ry:RelV y u) (h:∀ s',Inv X pins σ H s'→Q (.bool (!o.isSome)) s') :
    wpAny (model X.prog X.w) A (compareOp .NotIn u (.ref a)) Q E s:=by
  rcases g with ⟨kvs,k,e,ey,l⟩ | ⟨kvs,k,b,e,ey,eb,l⟩
  · subst ey
    obtain ⟨z,hd,vs,rel,dd⟩:=ag6 I.hok e
    refine wpAny_notIn_of (aaX ry) hd dd.mapOf ?_
    rw [← (rel.val k).zK,← l]
    exact h _ (I.tok _)
  · subst ey
    cases (show u=Value.ref b from ry)
    obtain ⟨z,hd,xs,rel,dd⟩:=aiO I.hok e
    refine wpAny_notIn_heap (tupleKind_room_in1 hu) (a4Y I.hok eb) hd dd ?_
    have q:=(rel.val k).zK
    rw [Option.isSome_map] at q
    rw [← q,← l]
    exact h _ (I.tok _)
theorem a0Z {h':Heap} {t':Nat} {ob:HO} (I:Inv X pins σ H s) (mu:Mut (H a)) (hs:Heap.SameBut a s.heap h') (he:∃ q,h'.get? a=some q) (new:oJ X.prog X.w (upd H a ob) h' a ob) :
    Inv X pins σ (upd H a ob) { s with heap:=h',toks:=t' } :=
  I.write (x:=a) (e:=a) mu (.inl rfl) (fun b q hb z=>(hs.2 b hb).trans z) he new
theorem ao1 {P:Program} {w:World} {H':Hp} {h':Heap} {kvs:List (Key×V)} {vs:List (Key×Value)} (z:kvs.length≤sizeLine) (hd:(a == sysModules)=false) (rel:KV kvs vs) (dd:h'.DictOf (bF P w) a vs) :
    oJ P w H' h' a (.dK kvs):=⟨z,hd,vs,rel,dd⟩
theorem ayP {H':Hp} {Q:Unit→Shared→Prop} (hu:A.units+1 < cLine) (I:Inv X pins σ H s) (g:aqT H a y v H') (ry:RelV y u) (rv:RelV v r) (h:∀ s',Inv X pins σ H' s'→Q () s') :
    wpAny (model X.prog X.w) A (setItem (.ref a) u r) Q E s:=by
  rcases g with ⟨kvs,k,e,ey,l,eH⟩ | ⟨kvs,k,b,e,ey,eb,l,eH⟩
  · subst ey eH
    obtain ⟨z,hd,vs,rel,dd⟩:=ag7 I.hok e
    have hz:vs.length≤sizeLine:=by rw [← rel.length];exact z
    have hl:(putK kvs k v).length≤sizeLine:=by have:=wM kvs k v;omega
    refine wpAny_setItem_pairs (hsz:=hz) (aaX ry) dd fun h' dd' hs=>h _ ?_
    have he:∃ q,h'.get? a=some q:=let ⟨q,_,_,hq,_⟩:=dd';⟨q,hq⟩
    exact a0Z I (by rw [e];exact True.intro) hs he (ao1 hl hd (rel.put k rv) dd')
  · subst ey eH
    cases (show u=Value.ref b from ry)
    obtain ⟨z,hd,xs,rel,dd⟩:=amJ I.hok e
    have hz:xs.length≤sizeLine:=by rw [← Paired.length rel];exact z
    have hl:(putK kvs k v).length≤sizeLine:=by have:=wM kvs k v;omega
    refine wpAny_setItem_heap (hsz:=hz) (tupleKind_room_in1 hu) (a4Y I.hok eb) dd fun h' dd' hs=>h _ ?_
    obtain ⟨q,es,ep,hq,h2,h3,h4,_,h5⟩:=dd'
    refine a0Z I (by rw [e];exact True.intro) hs ⟨q,hq⟩ ⟨hl,hd,_,(rel.put k eb rv).keeps fun c ys ec=>?_,q,es,ep,hq,h2,h3,h4,h5⟩
    rw [dF (awJ ec e (fun z=>nomatch z))]
    exact ec
end
section
variable {X:Cx} {pins:List (Addr×Obj)} {σ:St} {H:Hp} {s:Shared} {a:Addr} {kvs:List (Key×V)} {k:Key} {u:Value} {A:Around} {E:Value→Shared→Prop}
theorem aR0 {Q:Unit→Shared→Prop} (I:Inv X pins σ H s) (e:H a=some (.dK kvs)) (ry:RelV (kV k) u) (l:(a7S kvs k).isSome=true) (h:∀ s',Inv X pins σ (upd H a (.dK (a6U kvs k))) s'→Q () s') :
    wpAny (model X.prog X.w) A (delItem (.ref a) u) Q E s:=by
  obtain ⟨z,hd,vs,rel,dd⟩:=ag7 I.hok e
  refine wpAny_delItem_slot dd.typeIs (by decide) PySem.F.slot_dict_delitem
    (call_meetsIn PySem.F.slot_dict_delitem dd.typeIs PySem.F.entry_dict_delitem (PySem.F.args_dict_delitem_2 _ _) (meets_dict_delitem_pairs (bF X.prog X.w) a (aaX ry)) ⟨vs,dd,by rw [← rel.length];exact z,by rw [← (rel.val k).zK];exact l,fun h' dd' hs=>h _ ?_⟩)
  have he:∃ q,h'.get? a=some q:=let ⟨q,_,_,hq,_⟩:=dd';⟨q,hq⟩
  exact a0Z I (by rw [e];exact True.intro) hs he (ao1 (Nat.le_trans (aiN kvs k) z) hd (rel.drop k) dd')
theorem aRX {v:V} {more:List Value} {Q:Value→Shared→Prop} (I:Inv X pins σ H s) (e:H a=some (.dK kvs)) (ry:RelV (kV k) u) (l:a7S kvs k=some v) (hm:more=[]∨∃ x,more=[x])
    (h:∀ w' s',Inv X pins σ (upd H a (.dK (a6U kvs k))) s'→RelV v w'→Q w' s'):wpAny (model X.prog X.w) A (call (.builtin "dict.pop") (.ref a :: u :: more)) Q E s:=by
  obtain ⟨z,hd,vs,rel,dd⟩:=ag7 I.hok e
  obtain ⟨w',hw,rw'⟩:=a4T.some_of (v:=v) (o:=valueAt vs k) (by rw [← l];exact rel.val k)
  have hp:(keyPart u).isSome=true:=by
    cases k with
    | inl i=>obtain ⟨t,q⟩:=(show ∃ t,u=Value.int i t from ry);subst q;rfl
    | inr x=>obtain ⟨t,q⟩:=(show ∃ t,u=Value.str x t from ry);subst q;rfl
  have ha:argsOk "dict.pop" ⟨.ref a :: u :: more,[]⟩:=by
    rcases hm with q | ⟨x,q⟩
    · subst q;exact PySem.F.args_dict_pop_2 _ _
    · subst q;exact PySem.F.args_dict_pop_3 _ _ _
  refine call_meetsIn PySem.F.slot_dict_pop dd.typeIs PySem.F.entry_dict_pop ha (meets_dict_pop_there (bF X.prog X.w) a (aaX ry) more hm hp)
    ⟨vs,w',dd,by rw [← rel.length];exact z,hw,fun h' dd' hs=>h w' _ ?_ rw'⟩
  have he:∃ q,h'.get? a=some q:=let ⟨q,_,_,hq,_⟩:=dd';⟨q,hq⟩
  exact a0Z I (by rw [e];exact True.intro) hs he (ao1 (Nat.le_trans (aiN kvs k) z) hd (rel.drop k) dd')
theorem aRY {Q:Value→Shared→Prop} (I:Inv X pins σ H s) (e:Rd H a (.dK kvs)) (h:∀ t s',Inv X pins σ H s'→Q (.int kvs.length t) s'):wpAny (model X.prog X.w) A (call (.builtin "len") [.ref a]) Q E s:=by
  obtain ⟨z,hd,vs,rel,dd⟩:=ag6 I.hok e
  refine call_len_dict hd dd (by rw [← rel.length];rw [sizeLine_eq] at z;omega) ?_
  rw [← rel.length]
  exact h _ _ (I.tok _)
end
def aMD (i:Expr):Prop:=∀ ov iv,subscripted i false ov iv=operate [ov,iv] (getItem ov iv)
theorem aFA {prog:Program} {w:World} {A:Around} {E:Value→Shared→Prop} {s:Shared} {env:Env} {value slice:Expr} {pos:Pos} {T id:String} {Q:Value→Shared→Prop}
    (hl:typeLookup (.type T) "__getitem__" = pure (some (.builtin id))) (hs:aMD slice)
    (h:wpAny (model prog w) A (eval value env) (fun o s₁=>wpAny (model prog w) A (eval slice env) (fun i s₂=>s₂.TypeIs o T∧wpAny (model prog w) A (getItem o i) Q E s₂) E s₁) E s) :
    wpAny (model prog w) A (eval (.Subscript value slice pos) env) Q E s:=by
  refine Subscript_ (wpAny_mono h (fun o s₁ h₁=>wpAny_mono h₁ (fun i s₂ h₂=>?_) fun _ _ x=>x) fun _ _ x=>x)
  obtain ⟨hT,h₂⟩:=h₂
  unfold subscriptTail
  refine wpAny_bind ?_
  rw [getitemInPython_of_ne hT.not_modules]
  refine wpAny_bind (wpAny_specialOf hT hl ?_)
  have fin:wpAny (model prog w) A (subscripted slice false o i) (fun r s₃=>wpAny (model prog w) A (letTemporaryGo value o r >>= fun _=>pure r) Q E s₃) E s₂:=by
    rw [hs o i]
    exact wpAny_operating (wpAny_mono h₂ (fun r s₃ h₃=>wpAny_bind (wpAny_letTemporaryGo (wpAny_pure h₃))) fun _ _ x=>x)
  first
    | exact wpAny_pure (wpAny_bind fin)
    | exact wpAny_bind (wpAny_pure (wpAny_bind fin))
    | exact wpAny_bind fin
theorem aqV {X:Cx} {pins:List (Addr×Obj)} {σ:St} {H:Hp} {s:Shared} {a:Addr} {y:V} {o:Option V} (I:Inv X pins σ H s) (g:acO H a y o):s.TypeIs (.ref a) "dict" := by
  rcases g with ⟨kvs,k,e,_,_⟩ | ⟨kvs,k,b,e,_,_,_⟩
  · obtain ⟨_,_,vs,_,dd⟩:=ag6 I.hok e
    exact dd.typeIs
  · obtain ⟨_,_,xs,_,dd⟩:=aiO I.hok e
    exact dd.typeIs
def aRZ (td ty:TE):TE:=fun σ H Q=>td σ H fun x H1=>ty σ H1 fun y H2=>∃ a v,x = .ref a∧acO H2 a y (some v)∧Q v H2
def aS0 (td ty tv:TE):TS:=fun D σ H=>tv σ H fun v H1=>td σ H1 fun x H2=>ty σ H2 fun y H3=>∃ a H4,x = .ref a∧aqT H3 a y v H4∧D.nx σ H4
section
variable {X:Cx} {o i e value:Expr} {pos pos' tpos:Pos} {td ty tv:TE}
theorem aFB (hu:X.A.units+1 < cLine) (ho:PE X o td) (hi:PE X i ty) (hs:aMD i):PE X (.Subscript o i pos) (aRZ td ty):=by
  intro pins s σ H Q I h
  refine aFA PySem.F.slot_dict_getitem.lookup hs (kY (ho pins s σ H _ I h) fun u s1 ⟨x,H1,I1,rx,q1⟩=>kY (hi pins s1 σ H1 _ I1 q1) fun iv s2 ⟨y,H2,I2,ry,a,v,ex,g,q2⟩=>?_)
  subst ex
  obtain rfl:u=Value.ref a:=rx
  exact ⟨aqV I2 g,ayO hu I2 g ry fun w' s3 I3 rw'=>⟨v,H2,I3,rw',q2⟩⟩
theorem aFC (hu:X.A.units+1 < cLine) (ho:PE X o td) (hi:PE X i ty) (hv:PE X value tv) (hs:swapsWith value (some (.Subscript o i pos')) pos.line X.env=pure false) :
    PS X (.Assign [.Subscript o i pos'] value pos) (aS0 td ty tv):=by
  intro pins s σ H D I h
  refine wpAny_Assign_Subscript (kY (hv pins s σ H _ I h) fun r s1 ⟨v,H1,I1,rv,q1⟩=>kY (ho pins s1 σ H1 _ I1 q1) fun u s2 ⟨x,H2,I2,rx,q2⟩=>kY (hi pins s2 σ H2 _ I2 q2) fun iv s3 ⟨y,H3,I3,ry,a,H4,ex,g,q3⟩=>?_) hs
  subst ex
  obtain rfl:u=Value.ref a:=rx
  exact ayP hu I3 g ry rv fun s4 I4=>⟨σ,H4,I4,q3⟩
end
theorem aqW {P:Program} {w:World} {H:Hp} (h:Heap) (hb:sysModules < h.objs.size):oJ P w H (h.push { cls := .type "dict",data := .dict #[] }) h.objs.size (.dK []) :=
  ⟨Nat.zero_le _,beq_eq_false_iff_ne.mpr (Ne.symm (Nat.ne_of_lt hb)),[],.nil,Heap.DictOf.new h⟩
theorem aqX {P:Program} {w:World} {H:Hp} (h:Heap) (hb:sysModules < h.objs.size):oJ P w H (h.push { cls := .type "dict",data := .dict #[] }) h.objs.size (.dT []) :=
  ⟨Nat.zero_le _,beq_eq_false_iff_ne.mpr (Ne.symm (Nat.ne_of_lt hb)),[],.nil,_,#[],0,Heap.get?_push_size _ rfl,⟨rfl,rfl,rfl⟩,rfl,rfl,List.nodup_nil⟩
def aME:TE:=fun _ H Q=>∀ p,H p=none→Q (.ref p) (upd H p (.dK []))
def aMF:TE:=fun _ H Q=>∀ p,H p=none→Q (.ref p) (upd H p (.dT []))
section
variable {X:Cx} {pos:Pos}
theorem aAW:PE X (.Dict [] [] pos) aME:=fun pins s σ H Q I h =>
  wpAny_Dict_empty ⟨.ref s.heap.objs.size,_,I.laid (a:=s.heap.objs.size) (o := .dK []) (t':=s.toks) (fun _ _ q=>Heap.get?_push_of_some _ q) (Nat.le_refl _) (aqW s.heap I.big),rfl,h _ (I.hok.fresh (Nat.le_refl _))⟩
theorem aAX:PE X (.Dict [] [] pos) aMF:=fun pins s σ H Q I h =>
  wpAny_Dict_empty ⟨.ref s.heap.objs.size,_,I.laid (a:=s.heap.objs.size) (o := .dT []) (t':=s.toks) (fun _ _ q=>Heap.get?_push_of_some _ q) (Nat.le_refl _) (aqX s.heap I.big),rfl,h _ (I.hok.fresh (Nat.le_refl _))⟩
end
structure M2 (X:Cx) (o:Expr) (m:Str) (apos:Pos) (e f:Expr) (cpos:Pos):Prop where
  base:attributeBase o m X.env (eval o X.env)=eval o X.env
  few:((backTo cpos (starEach [e,f] X.env)).all (fun x=>!x.1)&&(backToKw cpos (keywordEach [] X.env)).all (fun x=>x.1.isSome)
    && decide (([e,f]:List Expr).length+([]:List Keyword).length+(if ([]:List Keyword).isEmpty then 0 else 1) < 30))=true
  line:(apos.endLine == cpos.line)=true
  trees:backTo cpos (starEach [e,f] X.env)=[(false,eval e X.env),(false,eval f X.env)]
def IsD (H:Hp) (a:Addr):Prop:=(∃ kvs,Rd H a (.dK kvs))∨∃ kvs,Rd H a (.dT kvs)
theorem ao2 {X:Cx} {pins:List (Addr×Obj)} {σ:St} {H:Hp} {s:Shared} {a:Addr} (I:Inv X pins σ H s) (d:IsD H a) :
    s.TypeIs (.ref a) "dict" ∧ (∀ b,Value.ref a = .ref b→∃ ob,s.heap.get? b=some ob∧ob.dict=none)∧(a == sysModules)=false:=by
  rcases d with ⟨kvs,e⟩ | ⟨kvs,e⟩
  · obtain ⟨_,hd,vs,_,dd⟩:=ag6 I.hok e
    refine ⟨dd.typeIs,fun b q=>?_,hd⟩
    cases q
    obtain ⟨ob,_,_,h1,h2,_⟩:=dd
    exact ⟨ob,h1,h2.2.1⟩
  · obtain ⟨_,hd,xs,_,dd⟩:=aiO I.hok e
    refine ⟨dd.typeIs,fun b q=>?_,hd⟩
    cases q
    obtain ⟨ob,_,_,h1,h2,_⟩:=dd
    exact ⟨ob,h1,h2.2.1⟩
section
variable {X:Cx} {pins:List (Addr×Obj)} {σ:St} {H:Hp} {s:Shared} {a:Addr} {y d:V} {u r:Value} {o:Option V} {A:Around} {E:Value→Shared→Prop}
theorem aMG {Q:Value→Shared→Prop} (hu:A.units+1 < cLine) (I:Inv X pins σ H s) (g:acO H a y o) (ry:RelV y u) (rd:RelV d r) (h:∀ w' s',Inv X pins σ H s'→RelV (o.getD d) w'→Q w' s') :
    wpAny (model X.prog X.w) A (call (.builtin "dict.get") [.ref a,u,r]) Q E s:=by
  rcases g with ⟨kvs,k,e,ey,l⟩ | ⟨kvs,k,b,e,ey,eb,l⟩
  · subst ey
    obtain ⟨z,hd,vs,rel,dd⟩:=ag6 I.hok e
    refine call_meetsIn PySem.F.slot_dict_get dd.typeIs PySem.F.entry_dict_get (PySem.F.args_dict_get_3 _ _ _) (meets_dict_get_default (bF X.prog X.w) a (aaX ry) hd r) ⟨_,dd.mapOf,h _ _ (I.tok _) ?_⟩
    rw [l]
    exact (rel.val k).getD rd
  · subst ey
    cases (show u=Value.ref b from ry)
    obtain ⟨z,hd,xs,rel,dd⟩:=aiO I.hok e
    refine call_meetsIn PySem.F.slot_dict_get dd.typeIs PySem.F.entry_dict_get (PySem.F.args_dict_get_3 _ _ _) (meetsH_dict_get_default (tupleKind (bF X.prog X.w)) a b hd r) ⟨tupleKind_room_in1 hu,k,xs,a4Y I.hok eb,dd,h _ _ (I.tok _) ?_⟩
    rw [l]
    exact (rel.val k).getD rd
end
def aMH (td ty tx:TE):TE:=fun σ H Q=>td σ H fun x H1=>∃ a,x = .ref a∧IsD H1 a∧ty σ H1 fun y H2=>tx σ H2 fun z H3=>∃ o,acO H3 a y o∧Q (o.getD z) H3
section
variable {X:Cx} {o e f:Expr} {apos cpos:Pos} {td ty tx:TE}
theorem aAY (hu:X.A.units+1 < cLine) (ho:PE X o td) (he:PE X e ty) (hf:PE X f tx) (m:M2 X o "get" apos e f cpos):PE X (.Call (.Attribute o "get" apos) [e,f] [] cpos) (aMH td ty tx):=by
  intro pins s σ H Q I h
  refine wpAny_Call_method m.base m.few m.line PySem.F.plainAttrs_dict PySem.F.slot_dict_get PySem.F.type_dict_get (kY (ho pins s σ H _ I h) fun u s1 ⟨x,H1,I1,rx,a,ex,d,q1⟩=>?_)
  subst ex
  obtain rfl:u=Value.ref a:=rx
  obtain ⟨t1,t2,_⟩:=ao2 I1 d
  refine ⟨t1,t2,?_⟩
  rw [m.trees]
  refine Calls.callWith_builtin rfl (Calls.evalArgs_plain (Calls.spliced_cons (kY (he pins s1 σ H1 _ I1 q1) fun iv s2 ⟨y,H2,I2,ry,q2⟩ =>
    Calls.spliced_cons (kY (hf pins s2 σ H2 _ I2 q2) fun fv s3 ⟨z,H3,I3,rz,ov,g,q3⟩=>Calls.spliced_nil ?_))))
  exact aMG hu I3 g ry rz fun w' s4 I4 rw'=>⟨_,H3,I4,rw',q3⟩
end
section
variable {X:Cx} {pins:List (Addr×Obj)} {σ:St} {H:Hp} {s:Shared} {a:Addr} {kvs:List (Key×V)} {A:Around} {E:Value→Shared→Prop}
end
section
variable {X:Cx} {pins:List (Addr×Obj)} {σ:St} {H:Hp} {s:Shared} {a:Addr} {y:V} {u:Value} {A:Around} {E:Value→Shared→Prop}
end
end L2
namespace HT
open PySem PyProof.Rows
section
open PySem.SeqAt
open PySem.AutoSeq1 (wpAny_loadPart')
open PySem.MeetsSeq PySem.MeetsSeq2 PySem.MeetsSeq3
end
section
variable {prog:Program} {w:World} {A:Around} {E:Value→Shared→Prop} {s:Shared}
theorem aFD {t b:Addr} {vs ws:List Value} {Q:Value→Shared→Prop} (ht:IsTup s.heap t vs.toArray) (hb:IsTup s.heap b ws.toArray) (hv:vs≠[])
    (h1:ws=[]→Q (.ref t) s) (h2:ws≠[]→Q (.ref s.heap.objs.size) { s with heap:=s.heap.push { cls := .type "tuple",data := .seq (vs++ws).toArray } })
    (hsz:vs.length+ws.length≤sizeLine):wpAny (model prog w) A (binaryOp .Add (.ref t) (.ref b)) Q E s:=by
  obtain ⟨⟨cls,dd,data,sl⟩,ho,hc,n,hd⟩:=id ht
  obtain ⟨⟨cls2,dd2,data2,sl2⟩,ho2,hc2,n2,hd2⟩:=id hb
  simp only at hc hd hc2 hd2
  subst hc hd hc2 hd2
  have e:vs.toArray++ws.toArray=(vs++ws).toArray:=by simp
  by_cases hw:ws=[]
  · exact concat_meets ⟨_,ho,rfl⟩ ⟨_,ho2,rfl⟩ noFill_tuple_add seq_tuple_add PySem.F.slot_tuple_add PySem.F.entry_tuple_add (PySem.F.args_tuple_add_2 _ _)
      (tuple_addW1 t b vs.toArray ws.toArray n n2 dd dd2 sl sl2 (by simpa using hv) (by simp [hw])) ⟨ho,ho2,h1 hw⟩
  · refine concat_meets ⟨_,ho,rfl⟩ ⟨_,ho2,rfl⟩ noFill_tuple_add seq_tuple_add PySem.F.slot_tuple_add PySem.F.entry_tuple_add (PySem.F.args_tuple_add_2 _ _)
      (tuple_addW2 t b vs.toArray ws.toArray n n2 dd dd2 sl sl2 (by simpa using hv) (by simpa using hw) (by rw [List.size_toArray,List.size_toArray];exact hsz)) ⟨ho,ho2,?_⟩
    rw [e]
    exact h2 hw
def sIx (n d:Nat):Option Int→Nat
  | none=>d
  | some v=>if v < 0 then (v+(n:Int)).toNat else min v.toNat n
end
end HT
namespace L2
open PySem PySem.Spec PyProof.Rows
abbrev TO:=St→Hp→(Option Int→Hp→Prop)→Prop
def PO (X:Cx) (e:Option Expr) (t:TO):Prop :=
  ∀ (pins:List (Addr×Obj)) (s:Shared) (σ:St) (H:Hp) (Q:Option Int→Hp→Prop),Inv X pins σ H s→t σ H Q →
    wpAny (model X.prog X.w) X.A (evalPart e X.env) (fun u s'=>∃ o H',Inv X pins σ H' s'∧IsPart u o∧Q o H') X.xe s
def aFE:TO:=fun _ H Q=>Q none H
def aS1 (t:TE):TO:=fun σ H Q=>t σ H fun x H1=>∃ i,x = .int i∧Q (some i) H1
section
variable {X:Cx} {e:Expr} {te:TE} {lo hi:Option Expr} {tl th:TO} {pos p2:Pos}
theorem aFF:PO X none aFE:=by
  intro pins s σ H Q I h
  rw [evalPart_none]
  exact wpAny_pure ⟨none,H,I,.none,h⟩
theorem aFG (h:PE X e te):PO X (some e) (aS1 te):=by
  intro pins s σ H Q I hw
  rw [evalPart_some]
  refine kY (h pins s σ H _ I hw) fun u s1 ⟨x,H1,I1,r1,q1⟩=>?_
  obtain ⟨i,rfl,q⟩:=q1
  obtain ⟨t,rfl⟩:=r1
  exact ⟨some i,H1,I1,.int i t,q⟩
def SlR (X:Cx) (r:V→Option Int→Option Int→Hp→VK→Prop):Prop :=
  ∀ (pins:List (Addr×Obj)) (s:Shared) (σ:St) (H:Hp) (x:V) (v vl vu:Value) (lo hi:Option Int) (sl:Addr) (Q:VK),Inv X pins σ H s→RelV x v→s.heap.IsSliceOf sl vl vu .none→IsPart vl lo→IsPart vu hi→r x lo hi H Q →
    ∃ T id,typeLookup (.type T) "__getitem__" = pure (some (.builtin id))∧s.TypeIs v T∧wpAny (model X.prog X.w) X.A (getItem v (.ref sl)) (EP X pins σ Q) X.xe s
theorem SlR.or {r r':V→Option Int→Option Int→Hp→VK→Prop} (h:SlR X r) (h':SlR X r'):SlR X (fun x lo hi H Q=>r x lo hi H Q∨r' x lo hi H Q):=by
  intro pins s σ H x v vl vu lo hi sl Q I rx hs pl pu q
  rcases q with q | q
  · exact h pins s σ H x v vl vu lo hi sl Q I rx hs pl pu q
  · exact h' pins s σ H x v vl vu lo hi sl Q I rx hs pl pu q
def aFH (xs:List V) (lo hi:Option Int):List V:=(xs.drop (HT.sIx xs.length 0 lo)).take (HT.sIx xs.length xs.length hi - HT.sIx xs.length 0 lo)
theorem aqY (xs:List V) (lo hi:Option Int):(aFH xs lo hi).length≤xs.length:=by
  unfold aFH
  rw [List.length_take,List.length_drop]
  omega
def aS3 (K:PySem.W.Frag):R2:=fun x y H Q=>∃ a b xs ys,x = .ref a∧y = .ref b∧SqT K H a xs∧SqT K H b ys∧xs≠[]∧xs.length+ys.length≤sizeLine ∧
  (ys=[]→Q (.ref a) H)∧(ys≠[]→∀ p,H p=none→Q (.ref p) (upd H p (.tup (xs++ys))))
theorem Vals.acP {xs:List V} {us:List Value} (r:Vals xs us):us=[]↔xs=[]:=by
  cases r with
  | nil=>simp
  | cons _ _=>simp
theorem aFI:OpR X (binaryOp .Add) (aS3 X.K):=by
  intro pins s σ H x y v u Q I rx ry h
  obtain ⟨a,b,xs,ys,rfl,rfl,ha,hb,hx,hz,q1,q2⟩:=h
  cases rx
  cases ry
  obtain ⟨its,r1,p1,_⟩:=I.tuple ha
  obtain ⟨its2,r2,p2,_⟩:=I.tuple hb
  refine HT.aFD p1 p2 (fun z=>hx (r1.acP.mp z)) (fun z=>⟨.ref a,H,I,rfl,q1 (r2.acP.mp z)⟩) (fun z=>?_) (by rw [← r1.length,← r2.length];exact hz)
  refine ⟨.ref s.heap.objs.size,_,I.laid (t':=s.toks) (o := .tup (xs++ys)) (fun b ob q=>Heap.get?_push_of_some _ q) (Nat.le_refl _) ?_,rfl,q2 (fun w=>z (r2.acP.mpr w)) _ (I.hok.fresh (Nat.le_refl _))⟩
  exact ⟨by rw [List.length_append];exact hz,_,r1.append r2,IsTup.new _ _⟩
end
end L2
namespace L2
open PySem PySem.Spec PyProof.Rows
def ixN (n:Nat) (i:Int):Option Nat:=if 0≤i then (if i < n then some i.toNat else none) else if -(n:Int)≤i then some (i+n).toNat else none
def atI {α:Type} (xs:List α) (i:Int):Option α:=(ixN xs.length i).bind fun j=>xs[j]?
theorem aFJ {n:Nat} {i:Int} {j:Nat} (h:ixN n i=some j):seqIndex? i n=some j∧j < n∧-(n:Int)≤i∧i < n:=by
  unfold ixN at h
  by_cases h0:0≤i
  · rw [if_pos h0] at h
    by_cases h1:i < n
    · rw [if_pos h1] at h
      have e:i.toNat=j:=Option.some.inj h
      exact ⟨by rw [seqIndex_of h0 h1,e],by omega,by omega,h1⟩
    · rw [if_neg h1] at h;cases h
  · rw [if_neg h0] at h
    by_cases h1:-(n:Int)≤i
    · rw [if_pos h1] at h
      have e:(i+n).toNat=j:=Option.some.inj h
      exact ⟨by rw [seqIndex_neg (by omega) h1,e],by omega,h1,by omega⟩
    · rw [if_neg h1] at h;cases h
theorem ao3 {α:Type} {xs:List α} {i:Int} {v:α} (h:atI xs i=some v):∃ j,seqIndex? i xs.length=some j∧xs[j]?=some v∧j < xs.length∧-(xs.length:Int)≤i∧i < xs.length:=by
  unfold atI at h
  cases e:ixN xs.length i with
  | none=>rw [e] at h;cases h
  | some j =>
    rw [e] at h
    obtain ⟨h1,h2,h3,h4⟩:=aFJ e
    exact ⟨j,h1,h,h2,h3,h4⟩
def ao4 (b:Expr):Prop:=∀ o i,subscripted b false o i=operate [o,i] (getItem o i)
def IxR (X:Cx) (r:R2):Prop :=
  ∀ (value slice:Expr) (pins:List (Addr×Obj)) (s:Shared) (σ:St) (H:Hp) (x y:V) (v u:Value) (Q:VK),Inv X pins σ H s→RelV x v→RelV y u→r x y H Q →
    subscripted slice false v u=operate [v,u] (getItem v u)→wpAny (model X.prog X.w) X.A (subscriptTail value slice v u) (EP X pins σ Q) X.xe s
def MtR (X:Cx) (id:String) (r:V→List V→Hp→VK→Prop):Prop :=
  ∀ (pins:List (Addr×Obj)) (s:Shared) (σ:St) (H:Hp) (x:V) (xs:List V) (v:Value) (us:List Value) (Q:VK),Inv X pins σ H s→RelV x v→Vals xs us→r x xs H Q →
    wpAny (model X.prog X.w) X.A (call (.builtin id) (v :: us)) (EP X pins σ Q) X.xe s
section
variable {X:Cx} {a b:Expr} {ta tb:TE} {pos:Pos}
theorem IxR.or {r r':R2} (h:IxR X r) (h':IxR X r'):IxR X (fun x y H Q=>r x y H Q∨r' x y H Q):=by
  intro value slice pins s σ H x y v u Q I rx ry q hs
  rcases q with q | q
  · exact h value slice pins s σ H x y v u Q I rx ry q hs
  · exact h' value slice pins s σ H x y v u Q I rx ry q hs
theorem MtR.or {id:String} {r r':V→List V→Hp→VK→Prop} (h:MtR X id r) (h':MtR X id r'):MtR X id (fun x xs H Q=>r x xs H Q∨r' x xs H Q):=by
  intro pins s σ H x xs v us Q I rx rs q
  rcases q with q | q
  · exact h pins s σ H x xs v us Q I rx rs q
  · exact h' pins s σ H x xs v us Q I rx rs q
theorem aS5 {r:R2} (hr:IxR X r) (ha:PE X a ta) (hb:PE X b tb) (hs:ao4 b):PE X (.Subscript a b pos) (tOp r ta tb):=by
  intro pins s σ H Q I h
  exact Subscript_ (aLX ha hb I h fun v u s2 x y H2 I2 rx ry q=>hr a b pins s2 σ H2 x y v u Q I2 rx ry q (hs _ _))
def aS6 (K:PySem.W.Frag):R2:=fun x y H Q=>∃ p xs i v,x = .ref p∧y = .int i∧SqL K H p xs∧atI xs i=some v∧Q v H
def aS7 (K:PySem.W.Frag):R2:=fun x y H Q=>∃ p xs i v,x = .ref p∧y = .int i∧SqT K H p xs∧atI xs i=some v∧Q v H
def aS8:R2:=fun x y H Q=>∃ z i c,x = .str z∧y = .int i∧z.length≤sizeLine∧atI z.cps.toList i=some c∧Q (.str ⟨#[c]⟩) H
theorem aFL:IxR X (aS6 X.K):=by
  intro value slice pins s σ H x y v u Q I rx ry h hs
  obtain ⟨p,xs,i,z,rfl,rfl,hq,he,q⟩:=h
  cases rx
  obtain ⟨t,rfl⟩:=ry
  obtain ⟨its,r,pl,hz⟩:=I.list hq
  obtain ⟨j,h1,h2,h3,h4,h5⟩:=ao3 he
  obtain ⟨w,ew,rw'⟩:=r.get h2
  have hl:=r.length
  have hn:=aiK
  have fin:EP X pins σ Q w s:=⟨z,H,I,rw',q⟩
  by_cases h0:0≤i
  · have hj:i.toNat=j:=by
      rw [seqIndex_of h0 h5] at h1
      exact Option.some.inj h1
    exact item_listR pl.isList h0 (by omega) (by rw [hj];simpa using ew) fin hs
  · have hj:(i+(its.toArray.size:Int)).toNat=j:=by
      rw [seqIndex_neg (by omega) h4] at h1
      rw [List.size_toArray,← hl]
      exact Option.some.inj h1
    exact subscriptTail_builtinR (x:=w) pl.isList.typeIs slot_list_getitem.lookup
      (wpAny_getItem_list_neg (Q:=fun r s'=>r=w∧EP X pins σ Q r s') pl.isList (by omega) (by rw [List.size_toArray] <;> omega) (by omega) (by rw [hj];simpa using ew) ⟨rfl,fin⟩) hs
theorem aMI:IxR X (aS7 X.K):=by
  intro value slice pins s σ H x y v u Q I rx ry h hs
  obtain ⟨p,xs,i,z,rfl,rfl,hq,he,q⟩:=h
  cases rx
  obtain ⟨t,rfl⟩:=ry
  obtain ⟨its,r,pl,hz⟩:=I.tuple hq
  obtain ⟨j,h1,h2,h3,h4,h5⟩:=ao3 he
  obtain ⟨w,ew,rw'⟩:=r.get h2
  have hl:=r.length
  have hn:=aiK
  have fin:EP X pins σ Q w s:=⟨z,H,I,rw',q⟩
  exact subscriptTail_builtinR (x:=w) pl.typeIs slot_tuple_getitem.lookup
    (getItem_tuple (j:=j) (Q:=fun r s'=>r=w∧EP X pins σ Q r s') pl (by omega) (by omega) (by rw [List.size_toArray,← hl];exact h1) (by simpa using ew) ⟨rfl,fin⟩) hs
theorem aMJ:IxR X aS8:=by
  intro value slice pins s σ H x y v u Q I rx ry h hs
  obtain ⟨z,i,c,rfl,rfl,hz,he,q⟩:=h
  obtain ⟨t,rfl⟩:=rx
  obtain ⟨t',rfl⟩:=ry
  obtain ⟨j,h1,h2,h3,h4,h5⟩:=ao3 he
  have hl:z.cps.toList.length=z.length:=by simp [Str.length]
  rw [hl] at h1 h4 h5
  have hn:=aiK
  exact tail_any (typeIs_str s z t) slot_str_getitem.lookup (getItem_str (c:=c) (by
    have e1:decide (i < -(2 ^ 63:Int))=false:=decide_eq_false (by omega)
    have e2:decide (i≥2 ^ 63)=false:=decide_eq_false (by omega)
    rw [e1,e2,Bool.or_false]) (by rw [h1];simpa using h2) ⟨.str ⟨#[c]⟩,H,I.tok _,⟨_,rfl⟩,q⟩) hs
def rIx (K:PySem.W.Frag):R2:=fun x y H Q=>aS6 K x y H Q∨aS7 K x y H Q∨aS8 x y H Q
theorem aMK:IxR X (rIx X.K):=aFL.or (aMI.or aMJ)
theorem Inv.lst {pins:List (Addr×Obj)} {σ:St} {H:Hp} {s:Shared} {p:Addr} {xs:List V} (I:Inv X pins σ H s) (h:H p=some (.lst xs)) :
    ∃ (its:List Value) (n:Nat),Vals xs its∧s.heap.get? p=some { cls := .type "list",data := .seq its.toArray n }∧xs.length≤sizeLine:=by
  obtain ⟨z,its,n,r,e⟩:=I.hok p _ h
  exact ⟨its,n,r,e,z⟩
theorem ao5 (lo hi:Option Int) (n:Nat):(sliceBounds lo hi none n).1=((HT.sIx n 0 lo:Nat):Int)∧(sliceBounds lo hi none n).2.1=((HT.sIx n n hi:Nat):Int)∧(sliceBounds lo hi none n).2.2=1:=by
  refine ⟨?_,?_,rfl⟩
  · cases lo with
    | none=>simp [sliceBounds,HT.sIx]
    | some i =>
      simp only [sliceBounds,HT.sIx,Option.getD_none,show (1:Int) > 0 by decide,if_true]
      by_cases h:i < 0
      · simp only [h,if_true] <;> omega
      · simp only [h,if_false] <;> omega
  · cases hi with
    | none=>simp [sliceBounds,HT.sIx]
    | some i =>
      simp only [sliceBounds,HT.sIx,Option.getD_none,show (1:Int) > 0 by decide,if_true]
      by_cases h:i < 0
      · simp only [h,if_true] <;> omega
      · simp only [h,if_false] <;> omega
theorem alG (its:List Value) (lo hi:Option Int):slicePick its.toArray lo hi none=((its.drop (HT.sIx its.length 0 lo)).take (HT.sIx its.length its.length hi - HT.sIx its.length 0 lo)).toArray:=by
  obtain ⟨h1,h2,h3⟩:=ao5 lo hi its.toArray.size
  unfold slicePick
  rw [h1,h2,h3]
  simp only [sliceRange_one,pick_run,List.size_toArray] <;> rfl
def aX5 (K:PySem.W.Frag):V→Option Int→Option Int→Hp→VK→Prop:=fun x lo hi H Q=>∃ a xs,x = .ref a∧SqL K H a xs∧∀ p,H p=none→Q (.ref p) (upd H p (.lst (aFH xs lo hi)))
theorem aVX:SlR X (aX5 X.K):=by
  intro pins s σ H x v vl vu lo hi sl Q I rx hs pl pu h
  obtain ⟨a,xs,rfl,hx,q⟩:=h
  cases rx
  obtain ⟨its,r,ht,hz⟩:=I.list hx
  have hlen:=r.length
  refine ⟨"list",_,slot_list_getitem.lookup,ht.isList.typeIs,?_⟩
  refine wpAny_getItem_list_slice ht.isList hs pl pu .none (by simp) ?_ (by rw [List.size_toArray] <;> omega)
  rw [alG,← hlen]
  refine ⟨.ref s.heap.objs.size,_,I.laid (t':=s.toks) (o := .lst (aFH xs lo hi)) (fun b ob q=>Heap.get?_push_of_some _ q) (Nat.le_refl _) ?_,rfl,q _ (I.hok.fresh (Nat.le_refl _))⟩
  exact ⟨Nat.le_trans (aqY xs lo hi) hz,_,0,(r.drop (HT.sIx xs.length 0 lo)).take (HT.sIx xs.length xs.length hi - HT.sIx xs.length 0 lo),Heap.get?_push_size _ rfl⟩
def a6V:V→Bool
  | .non=>true
  | .bl _=>true
  | .int _=>true
  | .str _=>true
  | _=>false
def eqV:V→V→Bool
  | .non,.non=>true
  | .bl a,.bl b=>a == b
  | .bl a,.int b=>(if a then 1 else 0) == b
  | .int a,.bl b=>a == (if b then 1 else 0)
  | .int a,.int b=>a == b
  | .str a,.str b=>a == b
  | _,_=>false
theorem aeO {A:Around} {s:Shared} {y x:V} {u v:Value} (ry:RelV y u) (rx:RelV x v) (fy:a6V y=true) (fx:a6V x=true):SeqAt.EqAt A s u v (eqV y x):=by
  cases y with
  | non =>
    cases ry
    cases x with
    | non=>cases rx;exact SeqAt.EqAt.same _
    | bl b=>cases rx;exact SeqAt.EqAt.none_bool b
    | int b=>obtain ⟨t,rfl⟩:=rx;exact SeqAt.EqAt.none_int b t
    | str b=>obtain ⟨t,rfl⟩:=rx;exact SeqAt.EqAt.none_str b t
    | _=>exact absurd (show false=true from fx) Bool.false_ne_true
  | bl a =>
    cases ry
    cases x with
    | non=>cases rx;exact SeqAt.EqAt.bool_none a
    | bl b=>cases rx;exact SeqAt.EqAt.bool_bool a b
    | int b=>obtain ⟨t,rfl⟩:=rx;exact SeqAt.EqAt.bool_int a b t
    | str b=>obtain ⟨t,rfl⟩:=rx;exact SeqAt.EqAt.bool_str a b t
    | _=>exact absurd (show false=true from fx) Bool.false_ne_true
  | int a =>
    obtain ⟨t',rfl⟩:=ry
    cases x with
    | non=>cases rx;exact SeqAt.EqAt.int_none a t'
    | bl b=>cases rx;exact SeqAt.EqAt.int_bool a t' b
    | int b=>obtain ⟨t,rfl⟩:=rx;exact SeqAt.EqAt.int_int a t' b t
    | str b=>obtain ⟨t,rfl⟩:=rx;exact SeqAt.EqAt.int_str a t' b t
    | _=>exact absurd (show false=true from fx) Bool.false_ne_true
  | str a =>
    obtain ⟨t',rfl⟩:=ry
    cases x with
    | non=>cases rx;exact SeqAt.EqAt.str_none a t'
    | bl b=>cases rx;exact SeqAt.EqAt.str_bool a t' b
    | int b=>obtain ⟨t,rfl⟩:=rx;exact SeqAt.EqAt.str_int a t' b t
    | str b=>obtain ⟨t,rfl⟩:=rx;exact SeqAt.EqAt.str_str a t' b t
    | _=>exact absurd (show false=true from fx) Bool.false_ne_true
  | _=>exact absurd (show false=true from fy) Bool.false_ne_true
def eqU (x:V) (u:Value):Bool:=match u with
  | .none=>eqV .non x
  | .bool b=>eqV (.bl b) x
  | .int i _=>eqV (.int i) x
  | .str z _=>eqV (.str z) x
  | _=>false
theorem aAZ {x y:V} {u:Value} (r:RelV y u) (f:a6V y=true):eqU x u=eqV y x:=by
  cases y with
  | non=>cases r;rfl
  | bl b=>cases r;rfl
  | int i=>obtain ⟨t,rfl⟩:=r;rfl
  | str z=>obtain ⟨t,rfl⟩:=r;rfl
  | _=>exact absurd (show false=true from f) Bool.false_ne_true
theorem acQ {x:V}:∀ {xs:List V} {us:List Value},Vals xs us→xs.all a6V=true→us.any (eqU x)=xs.any fun y=>eqV y x
  | _,_,.nil,_=>rfl
  | y :: xs,u :: us,.cons r t,f=>by
    rw [List.all_cons,Bool.and_eq_true] at f
    rw [List.any_cons,List.any_cons,aAZ r f.1,acQ t f.2]
theorem a80 {A:Around} {s:Shared} {x:V} {v:Value} (rx:RelV x v) (fx:a6V x=true):∀ {xs:List V} {us:List Value},Vals xs us→xs.all a6V=true→∀ u∈us,SeqAt.EqAt A s u v (eqU x u)
  | _,_,.nil,_=>fun u hu=>by cases hu
  | y :: xs,u :: us,.cons r t,f=>fun u' hu=>by
    rw [List.all_cons,Bool.and_eq_true] at f
    rcases List.mem_cons.mp hu with rfl | hu
    · rw [aAZ r f.1];exact aeO r rx f.1 fx
    · exact a80 rx fx t f.2 u' hu
def inV (x:V) (xs:List V):Bool:=xs.any fun y=>eqV y x
def rIn (K:PySem.W.Frag) (neg:Bool):R2:=fun x y H Q=>∃ p xs,y = .ref p∧(SqL K H p xs∨SqT K H p xs)∧a6V x=true∧xs.all a6V=true∧Q (.bl (if neg then !inV x xs else inV x xs)) H
theorem ayQ:OpR X (compareOp .In) (rIn X.K false):=by
  intro pins s σ H x y v u Q I rx ry h
  obtain ⟨p,xs,rfl,hq,fx,fs,q⟩:=h
  cases ry
  rcases hq with hq | hq
  · obtain ⟨its,r,pl,hz⟩:=I.list hq
    refine SeqAt.in_listAt (eqU x) pl.isList (fun w hw=>a80 rx fx r fs w (by simpa using hw)) ⟨.bl _,H,I,rfl,?_⟩
    rw [show its.toArray.any (eqU x)=its.any (eqU x) by simp,acQ r fs]
    exact q
  · obtain ⟨its,r,pl,hz⟩:=I.tuple hq
    refine SeqAt.in_tupleAt (eqU x) pl (fun w hw=>a80 rx fx r fs w (by simpa using hw)) ⟨.bl _,H,I,rfl,?_⟩
    rw [show its.toArray.any (eqU x)=its.any (eqU x) by simp,acQ r fs]
    exact q
theorem ao6:OpR X (compareOp .NotIn) (rIn X.K true):=by
  intro pins s σ H x y v u Q I rx ry h
  obtain ⟨p,xs,rfl,hq,fx,fs,q⟩:=h
  cases ry
  rcases hq with hq | hq
  · obtain ⟨its,r,pl,hz⟩:=I.list hq
    refine SeqAt.notIn_listAt (eqU x) pl.isList (fun w hw=>a80 rx fx r fs w (by simpa using hw)) ⟨.bl _,H,I,rfl,?_⟩
    rw [show its.toArray.any (eqU x)=its.any (eqU x) by simp,acQ r fs]
    exact q
  · obtain ⟨its,r,pl,hz⟩:=I.tuple hq
    refine SeqAt.notIn_tupleAt (eqU x) pl (fun w hw=>a80 rx fx r fs w (by simpa using hw)) ⟨.bl _,H,I,rfl,?_⟩
    rw [show its.toArray.any (eqU x)=its.any (eqU x) by simp,acQ r fs]
    exact q
theorem ao7:a3L X (.builtin "len") (fun xs H Q=>∃ p ys,xs=[.ref p]∧(SqL X.K H p ys∨SqT X.K H p ys)∧Q (.int ys.length) H):=by
  intro pins s σ H xs us Q I r h
  obtain ⟨p,ys,rfl,hq,q⟩:=h
  obtain ⟨u,rfl,rx⟩:=vals1 r
  cases rx
  have hn:=aiK
  rcases hq with hq | hq
  · obtain ⟨its,r',pl,hz⟩:=I.list hq
    have hlen:=r'.length
    exact Calls.call_len_list pl.isList (by simp only [List.size_toArray] <;> omega) ⟨.int ys.length,H,I.tok _,⟨s.toks+1,by rw [List.size_toArray,hlen]⟩,q⟩
  · obtain ⟨its,r',pl,hz⟩:=I.tuple hq
    have hlen:=r'.length
    exact len_tuple pl (by simp only [List.size_toArray] <;> omega) ⟨.int ys.length,H,I.tok _,⟨s.toks+1,by rw [List.size_toArray,hlen]⟩,q⟩
theorem ao8:a3L X (.builtin "len") (fun xs H Q=>∃ z,xs=[.str z]∧z.length≤sizeLine∧Q (.int z.length) H):=by
  intro pins s σ H xs us Q I r h
  obtain ⟨z,rfl,hz,q⟩:=h
  obtain ⟨u,rfl,t,rfl⟩:=vals1 r
  have hn:=aiK
  exact len_str (by omega) ⟨.int z.length,H,I.tok _,⟨_,rfl⟩,q⟩
theorem a3L.or {f:Value} {r r':List V→Hp→VK→Prop} (h:a3L X f r) (h':a3L X f r'):a3L X f (fun xs H Q=>r xs H Q∨r' xs H Q):=by
  intro pins s σ H xs us Q I rs q
  rcases q with q | q
  · exact h pins s σ H xs us Q I rs q
  · exact h' pins s σ H xs us Q I rs q
theorem ao9:a3L X (.type "list") (fun xs H Q=>∃ p ys,xs=[.ref p]∧(SqL X.K H p ys∨SqT X.K H p ys)∧∀ l,H l=none→Q (.ref l) (upd H l (.lst ys))):=by
  intro pins s σ H xs us Q I r h
  obtain ⟨p,ys,rfl,hq,q⟩:=h
  obtain ⟨u,rfl,rx⟩:=vals1 r
  cases rx
  have fin:∀ (its:List Value),Vals ys its→ys.length≤sizeLine→∀ (h':Heap) (c':Nat),(∀ b o',s.heap.get? b=some o'→h'.get? b=some o') →
      h'.get? s.heap.objs.size=some { cls := .type "list",dict:=none,data := .seq its.toArray c',slots:=#[] }→EP X pins σ Q (.ref s.heap.objs.size) { s with heap:=h' }:=fun its r' hz h' c' kp e =>
    ⟨.ref s.heap.objs.size,_,I.laid (t':=s.toks) kp (Nat.le_refl _) (show oJ X.prog X.w _ h' _ (.lst ys) from ⟨hz,its,c',r',e⟩),rfl,q _ (I.hok.fresh (Nat.le_refl _))⟩
  rcases hq with hq | hq
  · obtain ⟨its,r',pl,hz⟩:=I.list hq
    have hlen:=r'.length
    obtain ⟨o,ho,hc,n,hd⟩:=pl.isList
    exact call_list_seq p (.inl rfl) ho hc hd (fun h' c' kp e=>fin its r' hz h' c' kp e) (by simp only [List.size_toArray] <;> omega)
  · obtain ⟨its,r',pl,hz⟩:=I.tuple hq
    have hlen:=r'.length
    obtain ⟨o,ho,hc,n,hd⟩:=pl
    exact call_list_seq p (.inr rfl) ho hc hd (fun h' c' kp e=>fin its r' hz h' c' kp e) (by simp only [List.size_toArray] <;> omega)
theorem alH:a3L X (.type "tuple") (fun xs H Q=>∃ p ys,xs=[.ref p]∧((SqL X.K H p ys∧∀ l,H l=none→Q (.ref l) (upd H l (.tup ys)))∨(SqT X.K H p ys∧Q (.ref p) H))):=by
  intro pins s σ H xs us Q I r h
  obtain ⟨p,ys,rfl,h⟩:=h
  obtain ⟨u,rfl,rx⟩:=vals1 r
  cases rx
  rcases h with ⟨hq,q⟩ | ⟨hq,q⟩
  · obtain ⟨its,r',pl,hz⟩:=I.list hq
    have hlen:=r'.length
    refine call_tuple_list pl.isList (fun h' kp=>?_) (by simp only [List.size_toArray] <;> omega)
    have I1:Inv X pins σ H { s with heap:=h' }:=I.kept (t':=s.toks) kp
    have I2:Inv X pins σ (upd H h'.objs.size (.tup ys)) { s with heap:=h'.push { cls := .type "tuple",data := .seq its.toArray } } :=
      I1.laid (t':=s.toks) (fun b o e=>Heap.get?_push_of_some _ e) (Nat.le_refl _) (show oJ X.prog X.w _ _ _ (.tup ys) from ⟨hz,its,r',IsTup.new _ _⟩)
    exact ⟨.ref h'.objs.size,_,I2,rfl,q _ (I1.hok.fresh (Nat.le_refl _))⟩
  · obtain ⟨its,r',pl,hz⟩:=I.tuple hq
    exact call_tuple_same pl ⟨.ref p,H,I,rfl,q⟩
def tyV (K:PySem.W.Frag) (T:String) (x:V) (H:Hp):Prop:=match x with
  | .str _=>T = "str"
  | .int _=>T = "int"
  | .ref p=>(T = "list" ∧ ∃ xs,SqL K H p xs)∨(T = "tuple" ∧ ∃ o,K.lookup p=some o∧o.cls = .type "tuple" ∧ o.dict=none) ∨
      (T = "dict" ∧ ((∃ kvs,H p=some (.dK kvs))∨∃ kvs,H p=some (.dT kvs)))∨(T = "set" ∧ ∃ S n,H p=some (.set S n))
  | _=>False
theorem aB0 {pins:List (Addr×Obj)} {σ:St} {H:Hp} {s:Shared} {T:String} {x:V} {v:Value} (I:Inv X pins σ H s) (r:RelV x v) (ty:tyV X.K T x H) :
    s.TypeIs v T∧∀ a,v = .ref a→∃ ob,s.heap.get? a=some ob∧ob.dict=none:=by
  cases x with
  | str z =>
    obtain ⟨t,rfl⟩:=r
    cases (show T = "str" from ty)
    exact ⟨typeIs_str s z t,fun _ e=>nomatch e⟩
  | int i =>
    obtain ⟨t,rfl⟩:=r
    cases (show T = "int" from ty)
    exact ⟨typeIs_int s i t,fun _ e=>nomatch e⟩
  | ref p =>
    cases r
    rcases ty with ⟨rfl,xs,hq⟩ | ⟨rfl,o,hk,hc,hd⟩ | ⟨rfl,hk⟩ | ⟨rfl,S,n,hk⟩
    · obtain ⟨its,_,pl,_⟩:=I.list hq
      refine ⟨pl.isList.typeIs,fun a e=>?_⟩
      cases e
      obtain ⟨o,n,e,c,hd,_⟩:=pl
      exact ⟨o,e,hd⟩
    · refine ⟨⟨o,I.kIn p o hk,hc⟩,fun a e=>?_⟩
      cases e
      exact ⟨o,I.kIn _ o hk,hd⟩
    · have z:∃ o,s.heap.get? p=some o∧o.ExactDict:=by
        rcases hk with ⟨kvs,hk⟩ | ⟨kvs,hk⟩
        · obtain ⟨_,_,_,_,o,_,_,e,ex,_⟩:=I.hok p _ hk
          exact ⟨o,e,ex⟩
        · obtain ⟨_,_,_,_,o,_,_,e,ex,_⟩:=I.hok p _ hk
          exact ⟨o,e,ex⟩
      obtain ⟨o,e,ex⟩:=z
      refine ⟨⟨o,e,ex.1⟩,fun a e2=>?_⟩
      cases e2
      exact ⟨o,e,ex.2.1⟩
    · obtain ⟨o,_,_,_,e,ex,_⟩:=I.hok p _ hk
      refine ⟨⟨o,e,ex.1⟩,fun a e2=>?_⟩
      cases e2
      exact ⟨o,e,ex.2.1⟩
  | _=>exact False.elim ty
variable {o e:Expr} {es:List Expr} {to:TE} {t:TA} {name:Str} {apos cpos:Pos} {T id:String} {r:V→List V→Hp→VK→Prop}
end
end L2
namespace L2
open PySem PySem.Spec PyProof.Rows
def MtM (X:Cx) (id:String) (r:V→List V→Hp→VK→Prop):Prop :=
  ∀ (pins:List (Addr×Obj)) (s:Shared) (σ:St) (H:Hp) (x:V) (xs:List V) (v:Value) (us:List Value) (Q:VK),Inv X pins σ H s→RelV x v→Vals xs us→r x xs H Q →
    wpAny (model X.prog X.w) X.A (call (.builtin id) (v :: us)) (EP X pins σ Q) X.xe s
theorem Vals.one:∀ {x:V} {us:List Value},Vals [x] us→∃ u,us=[u]∧RelV x u
  | _,_,.cons r .nil=>⟨_,rfl,r⟩
theorem Vals.two:∀ {x y:V} {us:List Value},Vals [x,y] us→∃ u v,us=[u,v]∧RelV x u∧RelV y v
  | _,_,_,.cons r (.cons q .nil)=>⟨_,_,rfl,r,q⟩
theorem Vals.zero:∀ {us:List Value},Vals [] us→us=[]
  | _,.nil=>rfl
theorem Vals.dropLast {xs:List V} {us:List Value} (h:Vals xs us):Vals xs.dropLast us.dropLast:=by
  induction h with
  | nil=>exact .nil
  | cons r t ih =>
    cases t with
    | nil=>exact .nil
    | cons q t'=>exact .cons r ih
theorem Vals.eraseIdx:∀ {xs:List V} {us:List Value} (i:Nat),Vals xs us→Vals (xs.eraseIdx i) (us.eraseIdx i)
  | _,_,_,.nil => .nil
  | _,_,0,.cons _ t=>t
  | _,_,i+1,.cons r t => .cons r (Vals.eraseIdx i t)
theorem Vals.reverse {xs:List V} {us:List Value} (h:Vals xs us):Vals xs.reverse us.reverse:=by
  induction h with
  | nil=>exact .nil
  | cons r t ih=>rw [List.reverse_cons,List.reverse_cons];exact Vals.append ih (.cons r .nil)
theorem auV {α:Type} (l:List α):l.eraseIdx (l.length - 1)=l.dropLast:=by
  induction l with
  | nil=>rfl
  | cons a r ih =>
    cases r with
    | nil=>rfl
    | cons b r =>
      have e:(a :: b :: r).length - 1=((b :: r).length - 1)+1:=by
        have h1:(a :: b :: r).length=r.length+2:=rfl
        have h2:(b :: r).length=r.length+1:=rfl
        omega
      rw [e,List.eraseIdx_cons_succ,ih]
      all_goals rfl
section
variable {X:Cx} {pins:List (Addr×Obj)} {σ:St} {H:Hp} {s:Shared} {l b:Addr} {xs ys zs:List V}
theorem Inv.aML {its its':List Value} {n:Nat} {f:Array Value→Array Value} {t':Nat} (I:Inv X pins σ H s) (hH:H l=some (.lst xs))
    (e:s.heap.get? l=some { cls := .type "list",data := .seq its.toArray n }) (hf:f its.toArray=its'.toArray) (hv:Vals ys its') (hz:ys.length≤sizeLine) :
    Inv X pins σ (upd H l (.lst ys)) { s with heap:=s.heap.update l (Obj.mapSeq f),toks:=t' }:=by
  have q:=PySem.IsL.update e f
  rw [hf] at q
  refine I.write (x:=l) (e:=l) (by rw [hH];exact trivial) (.inl rfl) (fun b' u hb hu=>(Heap.get?_update_other s.heap (Obj.mapSeq f) (Ne.symm hb)).trans hu) ⟨_,q⟩ ?_
  exact ⟨hz,its',_,hv,q⟩
theorem Inv.aS9 {its:List Value} {t':Nat} (I:Inv X pins σ H s) (hv:Vals ys its) (hz:ys.length≤sizeLine) :
    Inv X pins σ (upd H s.heap.objs.size (.lst ys)) { s with heap:=s.heap.push { cls := .type "list",data := .seq its.toArray },toks:=t' } :=
  I.laid (fun _ _ q=>Heap.get?_push_of_some _ q) (Nat.le_refl _) ⟨hz,its,0,hv,Heap.get?_push_size _ rfl⟩
theorem Inv.fresh (I:Inv X pins σ H s):H s.heap.objs.size=none:=I.hok.fresh (Nat.le_refl _)
theorem Inv.ayR (I:Inv X pins σ H s) (hH:H l=some (.lst xs)):xs.length≤sizeLine∧∃ (its:List Value) (n:Nat),Vals xs its∧xs.length=its.length∧s.heap.get? l=some { cls := .type "list",data := .seq its.toArray n }:=by
  obtain ⟨z,its,n,r,e⟩:=I.hok l _ hH
  exact ⟨z,its,n,r,r.length,e⟩
theorem aB1 {n:Nat} (h:n≤sizeLine):Builtin.List.listTooLong n=false:=by
  unfold Builtin.List.listTooLong
  exact decide_eq_false (by omega)
end
section
variable {X:Cx}
def aFM:V→List V→Hp→VK→Prop:=fun x vs H Q=>∃ l xs y,x = .ref l∧vs=[y]∧H l=some (.lst xs)∧xs.length < sizeLine∧Q .non (upd H l (.lst (xs++[y])))
theorem amL:MtM X "list.append" aFM:=by
  intro pins s σ H x vs v us Q I rx rv h
  obtain ⟨l,xs,y,rfl,rfl,hH,hz,q⟩:=h
  cases rx
  obtain ⟨u,rfl,ru⟩:=rv.one
  obtain ⟨z,its,n,r,hl,e⟩:=I.ayR hH
  refine call_meets F.slot_list_append ⟨_,e,rfl⟩ F.entry_list_append (F.args_list_append_2 _ _) (PySem.list_append l its.toArray n u (by rw [List.size_toArray];omega)) ⟨e,?_⟩
  refine ⟨.non,_,I.aML (its':=its++[u]) hH e (by simp) (r.append (.cons ru .nil)) ?_,rfl,q⟩
  rw [List.length_append,List.length_singleton]
  omega
def aFN:V→List V→Hp→VK→Prop:=fun x vs H Q=>∃ l b xs zs,x = .ref l∧vs=[.ref b]∧H l=some (.lst xs)∧H b=some (.lst zs)∧xs.length+zs.length≤sizeLine∧Q .non (upd H l (.lst (xs++zs)))
theorem aR1:MtM X "list.extend" aFN:=by
  intro pins s σ H x vs v us Q I rx rv h
  obtain ⟨l,b,xs,zs,rfl,rfl,hH,hB,hz,q⟩:=h
  cases rx
  obtain ⟨u,rfl,ru⟩:=rv.one
  cases ru
  obtain ⟨z,its,n,r,hl,e⟩:=I.ayR hH
  obtain ⟨z2,its2,n2,r2,hl2,e2⟩:=I.ayR hB
  have hsz:its.toArray.size+its2.toArray.size≤sizeLine:=by rw [List.size_toArray,List.size_toArray];omega
  have aSA:¬ (!its.toArray.isEmpty&&Builtin.List.listTooLong (its.toArray.size+its2.toArray.size))=true:=by
    rw [aB1 hsz,Bool.and_false]
    exact Bool.false_ne_true
  refine call_meets F.slot_list_extend ⟨_,e,rfl⟩ F.entry_list_extend (F.args_list_extend_2 _ _)
    (AutoSeq1.list_extend_list_list_0 l its.toArray n b its2.toArray n2 aSA (by rw [List.size_toArray];omega) (by omega)) ⟨e,e2,?_⟩
  refine ⟨.non,_,I.aML (its':=its++its2) hH e (by simp) (r.append r2) ?_,rfl,q⟩
  rw [List.length_append]
  omega
def aX7:V→List V→Hp→VK→Prop:=fun x vs H Q=>∃ l xs y,x = .ref l∧vs=[]∧H l=some (.lst xs)∧xs[xs.length - 1]?=some y∧Q y (upd H l (.lst xs.dropLast))
theorem aMM:MtM X "list.pop" aX7:=by
  intro pins s σ H x vs v us Q I rx rv h
  obtain ⟨l,xs,y,rfl,rfl,hH,hy,q⟩:=h
  cases rx
  have hus:=rv.zero
  subst hus
  obtain ⟨z,its,n,r,hl,e⟩:=I.ayR hH
  obtain ⟨u,hu,ru⟩:=r.get hy
  have hy':its.toArray[its.toArray.size - 1]?=some u:=by
    show its.toArray[its.length - 1]?=some u
    rw [← Array.getElem?_toList,← hl]
    exact hu
  refine call_meets F.slot_list_pop ⟨_,e,rfl⟩ F.entry_list_pop (F.args_list_pop_1 _) (MeetsSeq.list_pop_last l its.toArray n u hy' (by rw [List.size_toArray];omega)) ⟨e,?_⟩
  refine ⟨y,_,I.aML (its':=its.dropLast) hH e ?_ r.dropLast ?_,ru,q⟩
  · show its.toArray.eraseIdxIfInBounds (its.toArray.size - 1)=its.dropLast.toArray
    rw [List.size_toArray,List.eraseIdxIfInBounds_toArray,auV]
  · rw [List.length_dropLast]
    omega
def aX8:R2:=fun x y H Q=>∃ l b xs zs,x = .ref l∧y = .ref b∧H l=some (.lst xs)∧H b=some (.lst zs)∧xs.length+zs.length≤sizeLine∧∀ p,H p=none→Q (.ref p) (upd H p (.lst (xs++zs)))
theorem aMN:OpR X (binaryOp .Add) aX8:=by
  intro pins s σ H x y v u Q I rx ry h
  obtain ⟨l,b,xs,zs,rfl,rfl,hH,hB,hz,q⟩:=h
  cases rx
  cases ry
  obtain ⟨z,its,n,r,hl,e⟩:=I.ayR hH
  obtain ⟨z2,its2,n2,r2,hl2,e2⟩:=I.ayR hB
  refine PySem.P.add_list e e2 ?_ (by rw [List.size_toArray,List.size_toArray];omega)
  have ea:its.toArray++its2.toArray=(its++its2).toArray:=by simp
  rw [ea]
  exact ⟨.ref _,_,I.aS9 (t':=s.toks) (r.append r2) (by rw [List.length_append];omega),rfl,q _ I.fresh⟩
end
section
variable {prog:Program} {w:World} {A:Around} {E:Value→Shared→Prop} {s:Shared}
end
section
variable {X:Cx}
end
end L2
namespace Att
open PySem PySem.W PySem.Calls PyProof.Rows
theorem ahI {P:Params} {h:Heap}:∀ (ns:List Int) (vs:List Value),WellAll P h vs (ns.map WData.int)→IntsAre vs ns:=by
  intro ns
  induction ns with
  | nil =>
    intro vs w
    rw [List.map_nil] at w
    cases w
    exact .nil
  | cons n ns ih =>
    intro vs w
    rw [List.map_cons] at w
    cases w with
    | cons a b =>
      cases a
      exact .cons _ _ (ih _ b)
theorem ayS {l:OpenLaw} {n:Nat} (hn:l.most=some n) {P:Params} {h:Heap} {args:List WData} {vals:List Value}
    (hpre:l.row.toRowW.claim.pre args=true) (hwl:WellAll P h vals args) :
    ∃ a vs ns,vals=[Value.ref a]∧args=[WData.list (ns.map WData.int)]∧h.get? a=some { cls := .type "list",data := .seq vs.toArray }∧IntsAre vs ns∧ns.length≤n:=by
  have hsh:WShape.hasAll [] args [.list .int]=true:=(pre_splitW hpre).1
  have hc:l.pre.holds [] { args:=args }=true:=(pre_splitW hpre).2
  obtain ⟨d,r,rfl,h1,h2⟩:=hasAllW_cons hsh
  obtain rfl:=hasAllW_nil h2
  obtain ⟨xs,rfl,h3⟩:=hasW_list h1
  obtain ⟨ns,rfl⟩:=items_int h3
  have hlen:ns.length≤n:=by
    unfold OpenLaw.pre at hc
    have h4:(WTm.not (.lt (.lit (.int (n:Int))) (.len (.arg 0)))).holds [] { args:=[.list (ns.map .int)] }=true:=by
      have h4:=(holds_andW hc).1
      rw [hn] at h4
      exact h4
    have h5:=condW_of h4 (w_not (w_lt w_lit (w_len_list (w_arg rfl))))
    rw [List.length_map] at h5
    refine Nat.le_of_not_lt fun q=>?_
    have q':(n:Int) < ((ns.length:Nat):Int):=by omega
    first
      | (rw [decide_eq_true q'] at h5;exact absurd h5 (by decide))
      | (simp at h5;omega)
  cases hwl with
  | cons w1 w2 =>
    cases w2
    cases w1 with
    | list ho hall=>exact ⟨_,_,ns,rfl,rfl,ho,ahI ns _ hall,hlen⟩
theorem ayT (l:OpenLaw) (args:List WData):l.row.toRowW.claim.post args (.bool true) args=true :=
  postW_of (r:=l.row.toRowW) (X:=(true == true))
    (show WShape.has [] (.bool true) .bool=true by first | rfl | decide | simp [WShape.has,WShape.arms,WShape.armsAll])
    (show (WTm.eq .res (.lit (.bool true))).value [] { args:=args,res:=some (.bool true),after:=args }=some (.bool (true == true)) from w_eq_bool (w_res rfl) w_lit) rfl
theorem aqZ {l:OpenLaw} {n:Nat} {q:Program} {loose:List Str} {XP:(Str→Option Value)→Heap→Prop} {YP:World→Heap→Prop} {d:DefRec}
    (hn:l.most=some n) (hdf:d.params.defaults=[])
    (call:∀ (w:World) (s₀ s₁:Shared) (mg mb:Str→Option Value) (fa:Addr) (o:Obj) (pm cd doc:Value) (a:Addr) (vs:List Value) (ns:List Int),
      Ground q loose [] XP w s₀ mg mb s₁.heap→YP w s₁.heap →
      s₁.heap.get? fa=some o→o.data = .func (docDef d.name d.params d.body d.scope pm cd doc)→s₁.heap.CodeRec cd d.name→mg d.name=some (.ref fa) →
      s₁.heap.get? a=some { cls := .type "list",data := .seq vs.toArray }→IntsAre vs ns→ns.length≤n→s₁.gens=#[] →
      codeAny (model l.prog w) callerA (.call (.ref fa) ⟨[.ref a],[]⟩) (fun r s'=>r = .ok (.ret (.bool true))∧OldK s₁.heap s'.heap∧s'.os=s₁.os∧AllBare s'.gens) s₁) :
    WalkO q loose XP YP l.row.toRowW d [] (fun f vs=>PySem.call f vs):=by
  intro w s₀ s₁ mg mb G Y fa o pm cd doc dV kV ho hd hcd hD hmg hg args vals as hpre hlay hrd hwl hlo
  obtain rfl:dV = .none:=Dflts.none hD hdf
  obtain rfl:kV = .none:=Dflts.noKw hD
  obtain ⟨a,vs,ns,rfl,rfl,hobj,hints,hlen⟩:=ayS hn hpre hwl
  refine enter_call (codeAny_mono (call w s₀ s₁ mg mb fa o pm cd doc a vs ns G Y ho (fd_plain hd) hcd hmg hobj hints hlen hg) fun r s' hq=>?_)
  obtain ⟨rfl,h2,h3,h4⟩:=hq
  exact ⟨.inl ⟨.bool true,.bool true,[],rfl,fun _=>rfl,.bool true,ayT l _,fun _=>⟨List.Pairwise.nil,fun _ hm=>(nomatch hm)⟩⟩,h2,h3,h4⟩
section
variable {prog:Program} {w:World} {A:Around} {E:Value→Shared→Prop} {s:Shared} {K:Frag}
def ledger (h:Heap) (L d:Addr):List (Addr×Obj):=(List.range h.objs.size).filterMap fun a=>if a=L∨a=d then none else (h.get? a).map fun o=>(a,o)
end
end Att
namespace L2
open PySem PySem.Spec PyProof.Rows
theorem amM:∀ {vs:List Value} {ns:List Int},IntsAre vs ns→Vals (ns.map V.int) vs
  | _,_,.nil => .nil
  | _,_,.cons n t h => .cons ⟨t,rfl⟩ (amM h)
def Only (H:Hp):Prop:=∀ b,H b=none∨∃ o xs,H b=some (.frz o (.lst xs))
theorem aB2 {P:Program} {w:World} {K:PySem.W.Frag} {mg mb:Str→Option Value} {CX:CXT} {k:Nat} {fa a:Addr} {fd:FuncData} {x:Str} {sp:Sp} {s₁:Shared} {vs:List Value} {ns:List Int}
    (KX:K.In s₁.heap) (hns:s₁.heap.Ns mainGlobals mg) (hb:s₁.heap.Ns builtinsNs mb) (hbb:∀ x:Str,x ≠ "__name__" → mb x=bootBuiltins x) (hlim:s₁.heap.NoLimit) (hg:s₁.gens=#[])
    (ha:s₁.heap.get? a=some { cls := .type "list",data := .seq vs.toArray }) (hi:IntsAre vs ns) (hl:ns.length≤sizeLine) (hr:oO qt k callerA)
    (F:∀ base:Heap,K.In base→base.Ns mainGlobals mg→dH qt P w K mg base CX k fa fd [x] sp) (hbind:∀ (s:Shared) (u:Value),BindsTo s fd ⟨[u],[]⟩ [(x,u)])
    (hsp:∀ H:Hp,Only H→SqL K H a (ns.map V.int)→sp [.ref a] H (fun v _=>v = .bl true) fun _ _ _=>False)
    (hCX:∀ H e s',CX [] H s₁ (fun _ _ _=>False) e s'→False) :
    codeAny (model P w) callerA (.call (.ref fa) ⟨[.ref a],[]⟩) (fun r s'=>r = .ok (.ret (.bool true))∧OldK s₁.heap s'.heap∧s'.os=s₁.os∧AllBare s'.gens) s₁:=by
  have rv:=amM hi
  have lenV:=hi.length
  have core:∀ H:Hp,Only H→SqL K H a (ns.map V.int)→HOk P w H s₁.heap→(∀ b,H b≠none→b=a)→(H a≠none→K.lookup a=none) →
      codeAny (model P w) callerA (.call (.ref fa) ⟨[.ref a],[]⟩) (fun r s'=>r = .ok (.ret (.bool true))∧OldK s₁.heap s'.heap∧s'.os=s₁.os∧AllBare s'.gens) s₁:=by
    intro H hO hS hok hA hK
    have awN:∀ {b:Addr} {o:Obj},s₁.heap.get? b=some o→H b=none→(anS s₁.heap H).get? b=some o:=fun e n=>aAJ e n
    have noA:∀ {b:Addr} {o:Obj} {es:Array DictEntry} {ep:Nat},s₁.heap.get? b=some o→o.data = .dict es ep→H b=none:=fun {b o es ep} e d=>by
      cases q:H b with
      | none=>rfl
      | some u =>
        have e':b=a:=hA b (by rw [q];simp)
        subst e'
        rw [ha] at e;cases e
        have d':Data.seq vs.toArray _=Data.dict es ep:=d
        cases d'
    have nsK:∀ {b:Addr} {m:Str→Option Value},s₁.heap.Ns b m→(anS s₁.heap H).Ns b m:=fun {b m} ⟨o,es,ep,e,d,r⟩=>⟨o,es,ep,awN e (noA e d),d,r⟩
    have hKb:K.In (anS s₁.heap H):=fun b o e=>awN (KX b o e) (by
      cases q:H b with
      | none=>rfl
      | some u =>
        have e':b=a:=hA b (by rw [q];simp)
        subst e'
        rw [hK (by rw [q];simp)] at e;cases e)
    have hM:Mod K mg (anS s₁.heap H):=⟨hKb,nsK hns,⟨mb,nsK hb,hbb⟩,let ⟨mc,h1,h2⟩:=hlim;⟨mc,nsK h1,h2⟩⟩
    have e0:alF P w K mg (anS s₁.heap H) callerA [] s₁ H:=⟨rfl,hM,fun b o e=>aER e,Nat.le_of_eq (ayD _ _),trivial,fun b hb=>absurd (show b∈([]:List Addr) from hb) (by simp),hok,.of_eq hg,.inl rfl⟩
    refine codeAny_mono ((F _ hKb (nsK hns)).run callerA [] s₁ H ⟨[.ref a],[]⟩ [.ref a] [.ref a] _ _ hr e0 (hbind s₁ (.ref a)) (.cons rfl .nil) (hsp H hO hS)) fun r s' h=>?_
    cases r with
    | error e=>exact (hCX H e s' h).elim
    | ok fl =>
      cases fl with
      | next=>exact False.elim h
      | brk=>exact False.elim h
      | cont=>exact False.elim h
      | ret u =>
        obtain ⟨v,H',os,bare,un,hok',r',q⟩:=h
        have q':v = .bl true:=q
        subst q'
        obtain rfl:u=Value.bool true:=r'
        refine ⟨rfl,OldK.of_keep fun b o e=>?_,os,bare⟩
        cases q:H b with
        | none=>exact un.keep b o e q (by intro z;exact absurd (show b∈([]:List Addr) from z) (by simp)) (by simp)
        | some u =>
          rcases hO b with z | ⟨ob,xs,z⟩
          · rw [q] at z;cases z
          · have z2:=un.tG b ob _ z
            obtain ⟨e1,_⟩:=hok b _ z
            obtain ⟨e2,_⟩:=hok' b _ z2
            rw [e] at e1;cases e1
            exact e2
  cases hk:K.lookup a with
  | some o =>
    have e:=KX a o hk
    rw [ha] at e
    cases e
    refine core (fun _=>none) (fun _ => .inl rfl) (.inr ⟨_,vs.toArray,_,hk,rfl,rfl,rfl,by rw [List.size_toArray,lenV];exact hl,by simpa using rv⟩) (fun b u z=>by have z':(none:Option HO)=some u:=z;cases z') (fun b z=>absurd rfl z) fun z=>absurd rfl z
  | none =>
    refine core (fun b=>if b=a then some (.frz { cls := .type "list",data := .seq vs.toArray } (.lst (ns.map V.int))) else none) (fun b=>?_) (.inl (.inr ⟨{ cls := .type "list",data := .seq vs.toArray },if_pos rfl⟩)) (fun b u z=>?_) (fun b z=>?_) fun _=>hk
    · by_cases hb:b=a
      · exact .inr ⟨_,_,if_pos hb⟩
      · exact .inl (if_neg hb)
    · by_cases hb:b=a
      · have z':=(if_pos hb).symm.trans z
        cases z'
        subst hb
        exact ⟨ha,by rw [List.length_map];exact hl,vs,_,rv,ha⟩
      · have z':=(if_neg hb).symm.trans z
        cases z'
    · by_cases hb:b=a
      · exact hb
      · exact absurd (if_neg hb) z
end L2
namespace L2
open PySem PySem.Spec PyProof.Rows
theorem aFO {l:PySem.W.OpenLaw} {n k:Nat} {q:Program} {loose:List Str} {XP:(Str→Option Value)→Heap→Prop} {YP:World→Heap→Prop} {d:DefRec} {K:Params→PySem.W.Frag} {CX:World→CXT} {sp:World→Sp} {x:Str}
    (hn:l.most=some n) (hn2:n≤sizeLine) (hdf:d.params.defaults=[]) (hr:oO qt k callerA)
    (hY:∀ (w:World) (h:Heap),YP w h→(K w.params).In h)
    (F:∀ (w:World) (mg:Str→Option Value) (fa:Addr) (h:Heap),(K w.params).In h→h.Ns mainGlobals mg→mg d.name=some (.ref fa) →
      ∃ fd:FuncData,(∀ (s:Shared) (u:Value),BindsTo s fd ⟨[u],[]⟩ [(x,u)]) ∧
        ∀ base:Heap,(K w.params).In base→base.Ns mainGlobals mg→dH qt l.prog w (K w.params) mg base (CX w) k fa fd [x] (sp w))
    (hsp:∀ (w:World) (H:Hp) (a:Addr) (ns:List Int),ns.length≤n→Only H→SqL (K w.params) H a (ns.map V.int)→sp w [.ref a] H (fun v _=>v = .bl true) fun _ _ _=>False)
    (hCX:∀ (w:World) (H:Hp) (s:Shared) (e:Value) (s':Shared),CX w [] H s (fun _ _ _=>False) e s'→False) :
    PySem.W.WalkO q loose XP YP l.row.toRowW d [] (fun f vs=>PySem.call f vs):=by
  refine Att.aqZ hn hdf fun w s₀ s₁ mg mb fa o pm cd doc a vs ns G Y ho hd hcd hmg hobj hints hlen hg=>?_
  have KX:=hY w _ Y
  obtain ⟨fd,hb,hF⟩:=F w mg fa _ KX G.T.g hmg
  exact aB2 KX G.T.g G.T.b G.T.builtins G.T.nolimit hg hobj hints (Nat.le_trans hlen hn2) hr hF hb (fun H hO hS=>hsp w H a ns hlen hO hS) fun H e s'=>hCX w H s₁ e s'
end L2
namespace L2
open PySem PySem.Spec PyProof.Rows
def inClass (s:Stmt) (j:Nat):Stmt:=match s with
  | .ClassDef _ _ _ body _ _ _ _ _ _ _=>body.getD j (.Pass ⟨0,0,0,0⟩)
  | _ => .Pass ⟨0,0,0,0⟩
def aJ (s:Stmt):Arguments:=match s with
  | .FunctionDef _ a _ _ _ _ _ _ _ _=>a
  | _=>{ posonlyargs:=[],args:=[],vararg:=none,kwonlyargs:=[],kw_defaults:=[],kwarg:=none,defaults:=[] }
def aG (s:Stmt):List Stmt:=match s with
  | .FunctionDef _ _ b _ _ _ _ _ _ _=>b
  | _=>[]
def aB (s:Stmt):Scope:=match s with
  | .FunctionDef _ _ _ _ _ _ sc _ _ _=>sc
  | _=>{ kind := .function,names:=[],isGenerator:=false,isCoroutine:=false }
abbrev CX0:CXT:=fun _ _ _ _ _ _=>False
structure Fun (K:PySem.W.Frag) (x qual:Str) (st:Stmt) (f:Addr) (fd:FuncData):Prop where
  ex:∃ (oc:Value) (od:Option Addr) (dV kV doc pm:Value) (an:Option Addr) (cdv ct:Value) (osl:Array (Option Value)),
    fd=PySem.W.fnOf x qual (aJ st) (aG st) (aB st) dV kV doc pm an cdv ct∧K.lookup f=some ⟨oc,od,.func fd,osl⟩∧PySem.W.codeIn K cdv qual=true
  kp:PySem.W.keepIn K (.ref f)=true
section
variable {P:Program} {w:World} {K:PySem.W.Frag} {mg:Str→Option Value} {base:Heap}
theorem Fun.ok {x qual:Str} {st:Stmt} {f:Addr} {fd:FuncData} {N ps:List Str} {k:Nat} {sp:Sp} (F:Fun K x qual st f fd) (S:bI N ps (aB st)) (len:∀ vs H Q E,sp vs H Q E→vs.length=ps.length)
    (hbody:∀ (cdv:Value) (A:Around) (outer:List Env) (s:Shared) (H:Hp) (vs:List V) (Q:VK) (E:XK),oO qt k (A.deeper (envOfC qual (aB st) s.heap.objs.size f cdv))→sp vs H Q E →
      ∃ t,PSs (a0Y qt CX0 P w K mg base N qual (aB st) f cdv A outer s H E).nox (aG st) t∧t { nx:=fun _ H'=>Q .non H',rt:=Q } (start N vs) H):dH qt P w K mg base CX0 (k+1) f fd ps sp:=by
  obtain ⟨oc,od,dV,kV,doc,pm,an,cdv,ct,osl,rfl,lk,hcd⟩:=F.ex
  refine aJZ lk hcd S len fun A outer s H vs Q E hr hsp=>?_
  obtain ⟨t,h,q⟩:=hbody cdv A outer s H vs Q E hr hsp
  exact ⟨t,h.nox,q⟩
theorem d8 {x qual:Str} {st:Stmt} {f:Addr} {oc:Value} {od an:Option Addr} {osl:Array (Option Value)} {dV kV doc pm cdv ct:Value} (l:K.lookup f=some ⟨oc,od,.func (PySem.W.fnOf x qual (aJ st) (aG st) (aB st) dV kV doc pm an cdv ct),osl⟩)
    (c:PySem.W.codeIn K cdv qual=true) (k:PySem.W.keepIn K (.ref f)=true):Fun K x qual st f (PySem.W.fnOf x qual (aJ st) (aG st) (aB st) dV kV doc pm an cdv ct):=⟨⟨oc,od,dV,kV,doc,pm,an,cdv,ct,osl,rfl,l,c⟩,k⟩
end
section
variable {X:Cx}
end
theorem ayU {c A B:Prop} [Decidable c] (h1:c→A) (h2:¬ c→B):if c then A else B:=by
  by_cases h:c
  · rw [if_pos h]
    exact h1 h
  · rw [if_neg h]
    exact h2 h
def Same (H H':Hp):Prop:=∀ b o,H b=some o→H' b=some o
theorem Same.refl (H:Hp):Same H H:=fun _ _ h=>h
theorem Same.trans {H H1 H2:Hp} (a:Same H H1) (b:Same H1 H2):Same H H2:=fun c o h=>b c o (a c o h)
theorem Same.free {H H':Hp} (e:Same H H') {l:Addr} (h:H' l=Option.none):H l=Option.none:=by
  cases q:H l with
  | none=>rfl
  | some o =>
    rw [e l o q] at h
    cases h
theorem Same.seq {K:PySem.W.Frag} {H H':Hp} {a:Addr} {xs:List V} (e:Same H H') (h:SqL K H a xs):SqL K H' a xs:=by
  rcases h with (h | ⟨o,h⟩) | h
  · exact .inl (.inl (e _ _ h))
  · exact .inl (.inr ⟨o,e _ _ h⟩)
  · exact .inr h
section
variable {X:Cx}
end
section
variable {κ:Type} [DecidableEq κ]
end
end L2
namespace L2
open PySem PySem.Spec PyProof.Rows
inductive D where
  | non | bl (b:Bool) | int (i:Int) | str (x:Str) | tup (xs:List D) | ref (a:Addr) | ty (n:String)
abbrev Fg:=PySem.W.Frag
mutual
inductive RD (K:Fg) (H:Hp):D→V→Prop where
  | non:RD K H .non .non
  | bl (b:Bool):RD K H (.bl b) (.bl b)
  | int (i:Int):RD K H (.int i) (.int i)
  | str (x:Str):RD K H (.str x) (.str x)
  | ty (n:String):RD K H (.ty n) (.ty n)
  | ref (a:Addr):RD K H (.ref a) (.ref a)
  | tup {a:Addr} {xs:List V} {ds:List D}:SqT K H a xs→iG K H ds xs→H a=some (.tup xs)→RD K H (.tup ds) (.ref a)
inductive iG (K:Fg) (H:Hp):List D→List V→Prop where
  | nil:iG K H [] []
  | cons {d:D} {v:V} {ds:List D} {vs:List V}:RD K H d v→iG K H ds vs→iG K H (d :: ds) (v :: vs)
end
structure Ts (H H':Hp):Prop where
  tups:∀ a xs,H a=some (.tup xs)→H' a=some (.tup xs)
  tG:∀ a o u,H a=some (.frz o u)→H' a=some (.frz o u)
theorem Ts.refl (H:Hp):Ts H H:=⟨fun _ _ h=>h,fun _ _ _ h=>h⟩
theorem Ts.trans {H H1 H2:Hp} (a:Ts H H1) (b:Ts H1 H2):Ts H H2:=⟨fun c xs h=>b.tups c xs (a.tups c xs h),fun c o u h=>b.tG c o u (a.tG c o u h)⟩
theorem Ts.same {H H':Hp} (s:Same H H'):Ts H H':=⟨fun a _ h=>s a _ h,fun a _ _ h=>s a _ h⟩
theorem Ts.rd {H H':Hp} (t:Ts H H') {a:Addr} {xs:List V} (h:Rd H a (.tup xs)):Rd H' a (.tup xs):=by
  rcases h with h | ⟨o,h⟩
  · exact .inl (t.tups _ _ h)
  · exact .inr ⟨o,t.tG _ _ _ h⟩
theorem Ts.sqT {K:Fg} {H H':Hp} (t:Ts H H') {a:Addr} {xs:List V} (h:SqT K H a xs):SqT K H' a xs:=h.elim (fun q => .inl (t.rd q)) .inr
theorem cU {H:Hp} {p:Addr} {o:HO} (h:H p=none):Same H (upd H p o):=fun b u e=>by
  rw [dF (uT e h)];exact e
mutual
theorem RD.mono {K:Fg} {H H':Hp} (t:Ts H H'):∀ {d:D} {v:V},RD K H d v→RD K H' d v
  | _,_,.non => .non
  | _,_,.bl b => .bl b
  | _,_,.int i => .int i
  | _,_,.str x => .str x
  | _,_,.ty n => .ty n
  | _,_,.ref a => .ref a
  | _,_,.tup h r e => .tup (t.sqT h) (iG.mono t r) (t.tups _ _ e)
theorem iG.mono {K:Fg} {H H':Hp} (t:Ts H H'):∀ {ds:List D} {vs:List V},iG K H ds vs→iG K H' ds vs
  | _,_,.nil => .nil
  | _,_,.cons h r => .cons (RD.mono t h) (iG.mono t r)
end
section
variable {K:Fg} {H:Hp}
theorem iG.length:∀ {ds:List D} {vs:List V},iG K H ds vs→ds.length=vs.length
  | _,_,.nil=>rfl
  | _,_,.cons _ r=>congrArg (·+1) (iG.length r)
theorem iG.append:∀ {ds:List D} {vs:List V} {es:List D} {ws:List V},iG K H ds vs→iG K H es ws→iG K H (ds++es) (vs++ws)
  | _,_,_,_,.nil,s=>s
  | _,_,_,_,.cons h r,s => .cons h (iG.append r s)
theorem iG.get:∀ {ds:List D} {vs:List V} {i:Nat} {d:D},iG K H ds vs→ds[i]?=some d→∃ v,vs[i]?=some v∧RD K H d v
  | _,_,_,_,.nil,e=>by simp at e
  | _,_,0,_,.cons r _,e=>by simp at e;subst e;exact ⟨_,rfl,r⟩
  | _,_,i+1,d,.cons _ t,e=>by
    obtain ⟨u,h1,h2⟩:=iG.get (i:=i) (d:=d) t (by simpa using e)
    exact ⟨u,by simpa using h1,h2⟩
theorem iG.aFP:∀ {ds:List D} {vs:List V} {i:Nat} {v:V},iG K H ds vs→vs[i]?=some v→∃ d,ds[i]?=some d∧RD K H d v
  | _,_,_,_,.nil,e=>by simp at e
  | _,_,0,_,.cons r _,e=>by simp at e;subst e;exact ⟨_,rfl,r⟩
  | _,_,i+1,d,.cons _ t,e=>by
    obtain ⟨u,h1,h2⟩:=iG.aFP (i:=i) (v:=d) t (by simpa using e)
    exact ⟨u,by simpa using h1,h2⟩
theorem iG.set {d:D} {v:V} (r:RD K H d v):∀ {ds:List D} {vs:List V} (i:Nat),iG K H ds vs→iG K H (ds.set i d) (vs.set i v)
  | _,_,_,.nil => .nil
  | _,_,0,.cons _ t => .cons r t
  | _,_,i+1,.cons q t => .cons q (iG.set r i t)
theorem iG.drop:∀ {ds:List D} {vs:List V} (n:Nat),iG K H ds vs→iG K H (ds.drop n) (vs.drop n)
  | _,_,0,r=>r
  | _,_,_+1,.nil => .nil
  | _,_,n+1,.cons _ t=>iG.drop n t
theorem iG.take:∀ {ds:List D} {vs:List V} (n:Nat),iG K H ds vs→iG K H (ds.take n) (vs.take n)
  | _,_,0,_ => .nil
  | _,_,_+1,.nil => .nil
  | _,_,n+1,.cons r t => .cons r (iG.take n t)
theorem iG.ints (ns:List Int):iG K H (ns.map D.int) (ns.map V.int):=by
  induction ns with
  | nil=>exact .nil
  | cons n r ih=>exact .cons (.int n) ih
theorem iG.acP {ds:List D} {vs:List V} (r:iG K H ds vs):vs=[]↔ds=[]:=by
  cases r <;> simp
end
abbrev DK:=Key ⊕ List Key
inductive GO where
  | lst (ds:List D) | rol (ds:List D) | dU (t:Bool) (kvs:List (DK×D)) | ins (C:Addr) (fs:List (Str×D)) | exn (C:Addr)
abbrev Gp:=Addr→Option GO
def aQ (G:Gp) (a:Addr) (o:GO):Gp:=fun b=>if b=a then some o else G b
theorem aP {G:Gp} {a:Addr} {o:GO}:aQ G a o a=some o:=by unfold aQ;rw [if_pos rfl]
theorem dW {G:Gp} {a b:Addr} {o:GO} (h:b≠a):aQ G a o b=G b:=by unfold aQ;rw [if_neg h]
theorem kZ {G:Gp} {a b:Addr} {o u:GO} (h:G b=some u) (n:G a=none):aQ G a o b=some u:=by
  rw [dW];exact h
  intro e;subst e;rw [h] at n;cases n
def Le (G G':Gp):Prop:=∀ a o,G a=some o→G' a=some o
theorem Le.refl (G:Gp):Le G G:=fun _ _ h=>h
theorem Le.trans {G G1 G2:Gp} (a:Le G G1) (b:Le G1 G2):Le G G2:=fun c o h=>b c o (a c o h)
theorem Le.new {G:Gp} {a:Addr} {o:GO} (n:G a=none):Le G (aQ G a o):=fun _ _ h=>kZ h n
theorem Le.free {G G':Gp} (l:Le G G') {a:Addr} (h:G' a=none):G a=none:=by
  cases q:G a with
  | none=>rfl
  | some o=>have:=l a o q;rw [h] at this;cases this
def kD:Key→D
  | .inl i => .int i
  | .inr x => .str x
inductive Two {α β:Type} (P:α→β→Prop):List α→List β→Prop where
  | nil:Two P [] []
  | cons {a:α} {b:β} {as:List α} {bs:List β}:P a b→Two P as bs→Two P (a :: as) (b :: bs)
theorem Two.imp {α β:Type} {P Q:α→β→Prop} (f:∀ a b,P a b→Q a b):∀ {as:List α} {bs:List β},Two P as bs→Two Q as bs
  | _,_,.nil => .nil
  | _,_,.cons h r => .cons (f _ _ h) (Two.imp f r)
theorem Two.length {α β:Type} {P:α→β→Prop}:∀ {as:List α} {bs:List β},Two P as bs→as.length=bs.length
  | _,_,.nil=>rfl
  | _,_,.cons _ r=>congrArg (·+1) (Two.length r)
def aaY (C a:Addr) (h:Heap):Prop:=∃ o vs,h.get? a=some o∧o.cls = .ref C∧o.data = .fields vs
def OR (K:Fg) (H:Hp) (a:Addr):GO→Prop
  | .lst ds=>∃ xs,H a=some (.lst xs)∧iG K H ds xs
  | .rol ds=>∃ xs,SqL K H a xs∧iG K H ds xs
  | .dU t kvs=>(t=false∧∃ xs:List (Key×V),H a=some (.dK xs)∧Two (fun p q=>p.1 = .inl q.1∧RD K H p.2 q.2) kvs xs) ∨
      (t=true∧∃ xs:List (List Key×V),H a=some (.dT xs)∧Two (fun p q=>p.1 = .inr q.1∧RD K H p.2 q.2) kvs xs)
  | .ins C fs=>∃ (dx:Addr) (vs:List (Str×V)),H a=some (.ins C dx vs)∧Two (fun p q=>p.1=q.1∧RD K H p.2 q.2) fs vs
  | .exn C=>∃ o vs,H a=some (.frz o (.ext (aaY C a)))∧o.data = .fields vs∧vs[2]?=some .none
def HR (K:Fg) (H:Hp) (G:Gp):Prop:=∀ a o,G a=some o→OR K H a o
theorem OR.keep {K:Fg} {H H':Hp} {a:Addr} {o:GO} (t:Ts H H') (h:OR K H a o) (k:∀ u,H a=some u→H' a=some u):OR K H' a o:=by
  cases o with
  | lst ds=>obtain ⟨xs,e,r⟩:=h;exact ⟨xs,k _ e,r.mono t⟩
  | rol ds =>
    obtain ⟨xs,e,r⟩:=h
    refine ⟨xs,?_,r.mono t⟩
    rcases e with (e | ⟨o,e⟩) | e
    · exact .inl (.inl (k _ e))
    · exact .inl (.inr ⟨o,k _ e⟩)
    · exact .inr e
  | dU b kvs =>
    rcases h with ⟨z,xs,e,r⟩ | ⟨z,xs,e,r⟩
    · exact .inl ⟨z,xs,k _ e,r.imp fun _ _ q=>⟨q.1,q.2.mono t⟩⟩
    · exact .inr ⟨z,xs,k _ e,r.imp fun _ _ q=>⟨q.1,q.2.mono t⟩⟩
  | ins C fs=>obtain ⟨dx,vs,e,r⟩:=h;exact ⟨dx,vs,k _ e,r.imp fun _ _ q=>⟨q.1,q.2.mono t⟩⟩
  | exn C=>obtain ⟨o,vs,e,r⟩:=h;exact ⟨o,vs,k _ e,r⟩
theorem HR.same {K:Fg} {H H':Hp} {G:Gp} (h:HR K H G) (s:Same H H'):HR K H' G:=fun a o e=>(h a o e).keep (.same s) fun u q=>s a u q
theorem HR.le {K:Fg} {H:Hp} {G G':Gp} (h:HR K H G') (l:Le G G'):HR K H G:=fun a o e=>h a o (l a o e)
theorem HR.put {K:Fg} {H:Hp} {G:Gp} {p:Addr} {o:HO} {u:GO} (h:HR K H G) (n:H p=none) (new:OR K (upd H p o) p u):HR K (upd H p o) (aQ G p u):=fun a v e=>by
  by_cases q:a=p
  · subst q;rw [aP] at e;cases e;exact new
  · rw [dW q] at e
    exact (h a v e).keep (.same (cU n)) fun w z=>cU n a w z
theorem HR.turn {K:Fg} {H:Hp} {G:Gp} {p:Addr} {o:HO} {u:GO} (h:HR K H G) (t:Ts H (upd H p o)) (new:OR K (upd H p o) p u):HR K (upd H p o) (aQ G p u):=fun a v e=>by
  by_cases q:a=p
  · subst q;rw [aP] at e;cases e;exact new
  · rw [dW q] at e
    exact (h a v e).keep t fun w z=>by rw [dF q];exact z
theorem Ts.turn {H:Hp} {p:Addr} {o u:HO} (e:H p=some u) (h1:∀ xs,u ≠ .tup xs) (h2:∀ ob w,u ≠ .frz ob w):Ts H (upd H p o):=by
  refine ⟨fun a xs q=>?_,fun a ob w q=>?_⟩
  · rw [dF];exact q
    intro z;subst z;rw [e] at q;exact h1 xs (Option.some.inj q)
  · rw [dF];exact q
    intro z;subst z;rw [e] at q;exact h2 ob w (Option.some.inj q)
abbrev aY:=List (Option D)
abbrev oK:=D→Gp→Prop
abbrev dX:=aY→Gp→oK→Prop
abbrev TT3:=aY→Gp→(Bool→Gp→Prop)→Prop
abbrev zQ:=aY→Gp→(List D→Gp→Prop)→Prop
def at3:aY→Nat→Option D
  | [],_=>none
  | x :: _,0=>x
  | _ :: r,n+1=>at3 r n
def a3M:aY→Nat→D→aY
  | [],_,_=>[]
  | _ :: r,0,d=>some d :: r
  | x :: r,n+1,d=>x :: a3M r n d
inductive SR (K:Fg) (H:Hp):aY→St→Prop where
  | nil:SR K H [] []
  | none {ρ:aY} {σ:St} {v:Option V}:SR K H ρ σ→SR K H (Option.none :: ρ) (v :: σ)
  | some {ρ:aY} {σ:St} {d:D} {v:V}:RD K H d v→SR K H ρ σ→SR K H (Option.some d :: ρ) (Option.some v :: σ)
theorem SR.mono {K:Fg} {H H':Hp} (t:Ts H H'):∀ {ρ:aY} {σ:St},SR K H ρ σ→SR K H' ρ σ
  | _,_,.nil => .nil
  | _,_,.none r => .none (SR.mono t r)
  | _,_,.some h r => .some (h.mono t) (SR.mono t r)
theorem SR.get {K:Fg} {H:Hp}:∀ {ρ:aY} {σ:St} {i:Nat} {d:D},SR K H ρ σ→at3 ρ i=Option.some d→∃ v,σ[i]?=Option.some (Option.some v)∧RD K H d v
  | _,_,_,_,.nil,e=>by simp [at3] at e
  | _,_,0,_,.none _,e=>by simp [at3] at e
  | _,_,0,_,.some h _,e=>by simp [at3] at e;subst e;exact ⟨_,rfl,h⟩
  | _,_,i+1,_,.none r,e=>by
    obtain ⟨v,h1,h2⟩:=SR.get (i:=i) r (by simpa [at3] using e)
    exact ⟨v,by simpa using h1,h2⟩
  | _,_,i+1,_,.some _ r,e=>by
    obtain ⟨v,h1,h2⟩:=SR.get (i:=i) r (by simpa [at3] using e)
    exact ⟨v,by simpa using h1,h2⟩
theorem SR.set {K:Fg} {H:Hp} {d:D} {v:V} (q:RD K H d v):∀ {ρ:aY} {σ:St} (i:Nat),SR K H ρ σ→SR K H (a3M ρ i d) (σ.set i (Option.some v))
  | _,_,_,.nil => .nil
  | _,_,0,.none r => .some q r
  | _,_,0,.some _ r => .some q r
  | _,_,i+1,.none r => .none (SR.set q i r)
  | _,_,i+1,.some h r => .some h (SR.set q i r)
theorem SR.len {K:Fg} {H:Hp}:∀ {ρ:aY} {σ:St},SR K H ρ σ→ρ.length=σ.length
  | _,_,.nil=>rfl
  | _,_,.none r=>congrArg (·+1) (SR.len r)
  | _,_,.some _ r=>congrArg (·+1) (SR.len r)
def aoB (n:Nat) (ds:List D):aY:=ds.map Option.some++List.replicate (n - ds.length) Option.none
theorem SR.nones {K:Fg} {H:Hp}:∀ n:Nat,SR K H (List.replicate n Option.none) (List.replicate n Option.none)
  | 0 => .nil
  | n+1 => .none (SR.nones n)
theorem SR.entry {K:Fg} {H:Hp} {k:Nat}:∀ {ds:List D} {vs:List V},iG K H ds vs→SR K H (ds.map Option.some++List.replicate k Option.none) (vs.map Option.some++List.replicate k Option.none)
  | _,_,.nil=>SR.nones k
  | _,_,.cons h r => .some h (SR.entry r)
def upE (K:Fg) (t:dX):TE:=fun σ H Q=>∃ ρ G R,SR K H ρ σ∧HR K H G∧t ρ G R∧∀ v H' d G',Ts H H'→RD K H' d v→HR K H' G'→R d G'→Q v H'
def upT (K:Fg) (t:TT3):TT:=fun σ H Q=>∃ ρ G R,SR K H ρ σ∧HR K H G∧t ρ G R∧∀ b H' G',Ts H H'→HR K H' G'→R b G'→Q b H'
def upA (K:Fg) (t:zQ):TA:=fun σ H Q=>∃ ρ G R,SR K H ρ σ∧HR K H G∧t ρ G R∧∀ vs H' ds G',Ts H H'→iG K H' ds vs→HR K H' G'→R ds G'→Q vs H'
abbrev gG (X:Cx) (e:Expr) (t:dX):Prop:=PE X e (upE X.K t)
abbrev PT3 (X:Cx) (e:Expr) (t:TT3):Prop:=PT X e (upT X.K t)
abbrev PW3 (X:Cx) (e:Expr) (t:TT3):Prop:=PW X e (upT X.K t)
abbrev PA3 (X:Cx) (es:List Expr) (t:zQ):Prop:=PA X es (upA X.K t)
structure oR where
  nx:aY→Gp→Prop
  rt:oK
  bk:aY→Gp→Prop:=fun _ _=>False
  ct:aY→Gp→Prop:=fun _ _=>False
abbrev cI:=oR→aY→Gp→Prop
structure UpD (K:Fg) (E:oR) (F:Ends):Prop where
  nx:∀ ρ G σ H',SR K H' ρ σ→HR K H' G→E.nx ρ G→F.nx σ H'
  rt:∀ d G v H',RD K H' d v→HR K H' G→E.rt d G→F.rt v H'
  bk:∀ ρ G σ H',SR K H' ρ σ→HR K H' G→E.bk ρ G→F.bk σ H'
  ct:∀ ρ G σ H',SR K H' ρ σ→HR K H' G→E.ct ρ G→F.ct σ H'
def upS (K:Fg) (t:cI):TS:=fun F σ H=>∃ ρ G E,SR K H ρ σ∧HR K H G∧t E ρ G∧UpD K E F
abbrev PS3 (X:Cx) (st:Stmt) (t:cI):Prop:=PS X st (upS X.K t)
abbrev aeP (X:Cx) (st:List Stmt) (t:cI):Prop:=PSs X st (upS X.K t)
section
variable {X:Cx}
theorem PE.imp {e:Expr} {t t':TE} (h:PE X e t) (k:∀ σ H Q,t' σ H Q→t σ H Q):PE X e t':=fun pins s σ H Q I q=>h pins s σ H Q I (k _ _ _ q)
theorem PT.imp {e:Expr} {t t':TT} (h:PT X e t) (k:∀ σ H Q,t' σ H Q→t σ H Q):PT X e t':=fun pins s σ H Q I q=>h pins s σ H Q I (k _ _ _ q)
theorem PW.imp {e:Expr} {t t':TT} (h:PW X e t) (k:∀ σ H Q,t' σ H Q→t σ H Q):PW X e t':=fun wh pins s σ H Q I q=>h wh pins s σ H Q I (k _ _ _ q)
theorem PA.imp {e:List Expr} {t t':TA} (h:PA X e t) (k:∀ σ H Q,t' σ H Q→t σ H Q):PA X e t':=fun p pins s σ H Q I q=>h p pins s σ H Q I (k _ _ _ q)
theorem PS.imp {e:Stmt} {t t':TS} (h:PS X e t) (k:∀ F σ H,t' F σ H→t F σ H):PS X e t':=fun pins s σ H F I q=>h pins s σ H F I (k _ _ _ q)
def KF (K:Fg) (H:Hp):Prop:=∀ b o,K.lookup b=some o→H b=none
theorem a6X {pins:List (Addr×Obj)} {σ:St} {H:Hp} {s:Shared} (I:Inv X pins σ H s):KF X.K H:=fun b o e=>(I.bs b o (I.ok.mod.kin b o e)).2
theorem PE.kf {e:Expr} {t:TE} (h:PE X e t):PE X e (fun σ H Q=>t σ H fun v H'=>KF X.K H'→Q v H'):=fun pins s σ H Q I q =>
  kY (h pins s σ H _ I q) fun _ _ ⟨v,H',I',r,q'⟩=>⟨v,H',I',r,q' (a6X I')⟩
theorem PSs.imp {e:List Stmt} {t t':TS} (h:PSs X e t) (k:∀ F σ H,t' F σ H→t F σ H):PSs X e t':=fun pins s σ H F I q=>h pins s σ H F I (k _ _ _ q)
end
theorem tH {K:Fg} {H:Hp} {G:Gp} {p:Addr} {o:HO} (g:HR K H G) (n:H p=none) (k:KF K (upd H p o)):G p=none:=by
  have kn:K.lookup p=none:=by
    cases q:K.lookup p with
    | none=>rfl
    | some u=>have:=k p u q;rw [aV] at this;cases this
  cases q:G p with
  | none=>rfl
  | some u =>
    have z:=g p u q
    cases u with
    | lst ds=>obtain ⟨xs,e,_⟩:=z;rw [n] at e;cases e
    | rol ds =>
      obtain ⟨xs,e,_⟩:=z
      rcases e with (e | ⟨o,e⟩) | ⟨o,_,_,e,_⟩
      · rw [n] at e;cases e
      · rw [n] at e;cases e
      · rw [kn] at e;cases e
    | dU tt kvs =>
      rcases z with ⟨_,xs,e,_⟩ | ⟨_,xs,e,_⟩
      · rw [n] at e;cases e
      · rw [n] at e;cases e
    | ins C fs=>obtain ⟨dx,vs,e,_⟩:=z;rw [n] at e;cases e
    | exn C=>obtain ⟨o,vs,e,_⟩:=z;rw [n] at e;cases e
section
variable {X:Cx} {a b c:Expr} {ta tb tc:dX} {pos:Pos}
def aC (i:Nat):dX:=fun ρ G R=>match at3 ρ i with
  | some d=>R d G
  | none=>False
def bY (d:D):dX:=fun _ G R=>R d G
theorem aMO {K:Fg} {i:Nat} {σ:St} {H:Hp} {Q:VK} (h:upE K (aC i) σ H Q):aRA i σ H Q:=by
  obtain ⟨ρ,G,R,s,g,t,k⟩:=h
  unfold aC at t
  split at t
  · rename_i d e
    obtain ⟨v,h1,h2⟩:=s.get e
    exact ⟨v,h1,k v H d G (.refl H) h2 g t⟩
  · exact t.elim
theorem ayW {K:Fg} {d:D} {v:V} (r:∀ H,RD K H d v) {σ:St} {H:Hp} {Q:VK} (h:upE K (bY d) σ H Q):tC v σ H Q:=by
  obtain ⟨ρ,G,R,s,g,t,k⟩:=h
  exact k v H d G (.refl H) (r H) g t
theorem aSC (i:Nat) {x:Str} {pos:Pos} (hN:X.N[i]?=some x:=by rfl) (hv:Vis X.env.scope x:=by first | exact Or.inl rfl | exact Or.inr (Or.inl rfl) | exact Or.inr (Or.inr rfl)) (hd:(x == ("__debug__" : Str))=false:=by decide)
    (hcd:(x == ("__classdict__" : Str))=false:=by decide):gG X (.Name x pos) (aC i):=PE.imp (aLH hN hv hd hcd) fun _ _ _ h=>aMO h
theorem aSD {i j pos}:gG X (.Constant (.int i) j pos) (bY (.int i)):=PE.imp aLI fun _ _ _ h=>ayW (fun _ => .int i) h
theorem aXA {b j pos}:gG X (.Constant (.bool b) j pos) (bY (.bl b)):=PE.imp aRB fun _ _ _ h=>ayW (fun _ => .bl b) h
theorem aSE {j pos}:gG X (.Constant .none j pos) (bY .non):=PE.imp aLJ fun _ _ _ h=>ayW (fun _ => .non) h
theorem aSF {x j pos}:gG X (.Constant (.str x) j pos) (bY (.str x)):=PE.imp aLK fun _ _ _ h=>ayW (fun _ => .str x) h
theorem aB3 {x:Str} {d:D} {v:V} {u:Value} {pos:Pos} (hg:Gl X x) (hm:X.mg x=some u) (r:RelV v u) (rd:∀ H,RD X.K H d v) (hd:(x == ("__debug__" : Str))=false:=by decide):gG X (.Name x pos) (bY d) :=
  PE.imp (aET hg hm r hd) fun _ _ _ h=>ayW rd h
theorem aMP {x:Str} {n:String} {pos:Pos} (hg:Gl X x) (hm:X.mg x=none) (hv:bootBuiltins x=some (.type n)) (hn:x ≠ "__name__" := by decide) (hd:(x == ("__debug__" : Str))=false:=by decide):gG X (.Name x pos) (bY (.ty n)) :=
  PE.imp (aEU hg hm hv (v := .ty n) rfl hn hd) fun _ _ _ h=>ayW (fun _ => .ty n) h
abbrev R3:=D→D→Gp→oK→Prop
def OpI (K:Fg) (r:R2) (r3:R3):Prop:=∀ (H:Hp) (x y:D) (vx vy:V) (G:Gp) (R:oK) (Q:VK),RD K H x vx→RD K H y vy→HR K H G→r3 x y G R→(∀ v H' d G',Ts H H'→RD K H' d v→HR K H' G'→R d G'→Q v H')→r vx vy H fun v H'=>KF K H'→Q v H'
def aiP (X:Cx) (f:Value→Value→Sem Value) (r3:R3):Prop:=∃ r,OpR X f r∧OpI X.K r r3
def OpC (K:Fg) (r:R2) (r3:R3):Prop:=∀ (H:Hp) (x y:D) (vx vy:V) (G:Gp) (R:oK) (Q:VK),RD K H x vx→RD K H y vy→HR K H G→r3 x y G R→(∀ v H' d G',Ts H H'→RD K H' d v→HR K H' G'→R d G'→Q v H')→r vx vy H Q
def yV (X:Cx) (f:Value→Value→Sem Value) (r3:R3):Prop:=∃ r,OpR X f r∧OpC X.K r r3
def aN (r:R3) (ta tb:dX):dX:=fun ρ G R=>ta ρ G fun x G1=>tb ρ G1 fun y G2=>r x y G2 R
theorem aSG {K:Fg} {r:R2} {r3:R3} (o:OpI K r r3) {σ:St} {H:Hp} {Q:VK} (h:upE K (aN r3 ta tb) σ H Q):tOp r (upE K ta) (upE K tb) σ H fun v H'=>KF K H'→Q v H':=by
  obtain ⟨ρ,G,R,s,g,t,k⟩:=h
  refine ⟨ρ,G,_,s,g,t,fun vx H1 x G1 t1 rx g1 t'=>?_⟩
  refine ⟨ρ,G1,_,s.mono t1,g1,t',fun vy H2 y G2 t2 ry g2 t''=>?_⟩
  exact o H2 x y vx vy G2 R Q (rx.mono t2) ry g2 t'' fun v H' d G' t3=>k v H' d G' ((t1.trans t2).trans t3)
theorem auW {K:Fg} {r:R2} {r3:R3} (o:OpC K r r3) {σ:St} {H:Hp} {Q:VK} (h:upE K (aN r3 ta tb) σ H Q):tOp r (upE K ta) (upE K tb) σ H Q:=by
  obtain ⟨ρ,G,R,s,g,t,k⟩:=h
  refine ⟨ρ,G,_,s,g,t,fun vx H1 x G1 t1 rx g1 t'=>?_⟩
  refine ⟨ρ,G1,_,s.mono t1,g1,t',fun vy H2 y G2 t2 ry g2 t''=>?_⟩
  exact o H2 x y vx vy G2 R Q (rx.mono t2) ry g2 t'' fun v H' d G' t3=>k v H' d G' ((t1.trans t2).trans t3)
theorem aXB {op:Operator} {r3:R3} (o:aiP X (binaryOp op) r3) (ha:gG X a ta) (hb:gG X b tb):gG X (.BinOp a op b pos) (aN r3 ta tb):=by
  obtain ⟨r,o1,o2⟩:=o
  exact PE.imp (PE.kf (aRO o1 ha hb)) fun _ _ _ h=>aSG o2 h
theorem aB4 {op:CmpOp} {r3:R3} (o:yV X (compareOp op) r3) (ha:gG X a ta) (hb:gG X b tb) (hm:behindInMarks op b=false):gG X (.Compare a [op] [b] pos) (aN r3 ta tb):=by
  obtain ⟨r,o1,o2⟩:=o
  exact PE.imp (aF4 o1 ha hb hm) fun _ _ _ h=>auW o2 h
def bJ (t:dX):TT3:=fun ρ G R=>t ρ G fun x G1=>match x with
  | .bl k=>R k G1
  | _=>False
theorem aoC {K:Fg} {t:TE} {t3:dX} (f:∀ σ H Q,upE K t3 σ H Q→t σ H Q) {σ:St} {H:Hp} {Q:Bool→Hp→Prop} (h:upT K (bJ t3) σ H Q):aAR t σ H Q:=by
  obtain ⟨ρ,G,R,s,g,u,k⟩:=h
  refine f _ _ _ ⟨ρ,G,_,s,g,u,fun v H' d G' t1 r g1 q=>?_⟩
  cases r with
  | bl b=>exact ⟨b,rfl,k b H' G' t1 g1 q⟩
  | _=>exact q.elim
theorem aB5 {op:CmpOp} {r3:R3} (o:yV X (compareOp op) r3) (ha:gG X a ta) (hb:gG X b tb) (hm:behindInMarks op b=false):PT3 X (.Compare a [op] [b] pos) (bJ (aN r3 ta tb)):=by
  obtain ⟨r,o1,o2⟩:=o
  exact PT.imp (aF5 o1 ha hb hm) fun _ _ _ h=>aoC (fun _ _ _=>auW o2) h
theorem aSH {e:Expr} {t:dX} (h:gG X e t) (he:∀ whole,isTrue e X.env whole=(do let v ← whole;standAt e.pos;holding [v] (truthy v)):=by intro _;rfl):PT3 X e (bJ t) :=
  PT.imp (aLL h he) fun _ _ _ h=>aoC (fun _ _ _ q=>q) h
def a1A (r r':R3) (ta tb tc:dX):dX:=fun ρ G R=>ta ρ G fun x G1=>tb ρ G1 fun y G2=>r x y G2 fun z G3=>match z with
  | .bl true=>tc ρ G3 fun w G4=>r' y w G4 R
  | .bl false=>R (.bl false) G3
  | _=>False
theorem ar3 {K:Fg} {r r':R2} {r3 r3':R3} (o:OpC K r r3) (o':OpC K r' r3') {σ:St} {H:Hp} {Q:VK} (h:upE K (a1A r3 r3' ta tb tc) σ H Q):auM r r' (upE K ta) (upE K tb) (upE K tc) σ H Q:=by
  obtain ⟨ρ,G,R,s,g,t,k⟩:=h
  refine ⟨ρ,G,_,s,g,t,fun vx H1 x G1 t1 rx g1 t'=>?_⟩
  refine ⟨ρ,G1,_,s.mono t1,g1,t',fun vy H2 y G2 t2 ry g2 t''=>?_⟩
  refine o H2 x y vx vy G2 _ _ (rx.mono t2) ry g2 t'' fun v H3 d G3 t3 rd g3 q=>?_
  cases rd with
  | bl b =>
    refine ⟨b,rfl,?_⟩
    cases b with
    | true =>
      rw [if_pos rfl]
      refine ⟨ρ,G3,_,s.mono ((t1.trans t2).trans t3),g3,q,fun vw H4 w G4 t4 rw' g4 q'=>?_⟩
      exact o' H4 y w vy vw G4 R Q (ry.mono (t3.trans t4)) rw' g4 q' fun v H' d G' t5=>k v H' d G' (((t1.trans t2).trans t3).trans (t4.trans t5))
    | false =>
      rw [if_neg Bool.false_ne_true]
      exact k _ H3 _ G3 ((t1.trans t2).trans t3) (.bl false) g3 q
  | _=>exact q.elim
theorem aFQ {op op':CmpOp} {r3 r3':R3} (o:yV X (compareOp op) r3) (o':yV X (compareOp op') r3') (ha:gG X a ta) (hb:gG X b tb) (hc:gG X c tc)
    (hm:lastMarks [op,op'] [b,c]=false:=by with_unfolding_all rfl):gG X (.Compare a [op,op'] [b,c] pos) (a1A r3 r3' ta tb tc):=by
  obtain ⟨r,o1,o2⟩:=o
  obtain ⟨r',o1',o2'⟩:=o'
  exact PE.imp (aAS o1 o1' ha hb hc hm) fun _ _ _ h=>ar3 o2 o2' h
theorem aFR {op op':CmpOp} {r3 r3':R3} (o:yV X (compareOp op) r3) (o':yV X (compareOp op') r3') (ha:gG X a ta) (hb:gG X b tb) (hc:gG X c tc)
    (hm:lastMarks [op,op'] [b,c]=false:=by with_unfolding_all rfl):PT3 X (.Compare a [op,op'] [b,c] pos) (bJ (a1A r3 r3' ta tb tc)):=by
  obtain ⟨r,o1,o2⟩:=o
  obtain ⟨r',o1',o2'⟩:=o'
  exact PT.imp (aAT o1 o1' ha hb hc hm) fun _ _ _ h=>aoC (fun _ _ _=>ar3 o2 o2') h
variable {sa sb:TT3} {rest:List Expr}
def awP (t u:TT3):TT3:=fun ρ G R=>t ρ G fun c G1=>if c=true then u ρ G1 R else R false G1
def acR (t u:TT3):TT3:=fun ρ G R=>t ρ G fun c G1=>if c=true then R true G1 else u ρ G1 R
def tK (t:TT3):TT3:=fun ρ G R=>t ρ G fun c G1=>R (!c) G1
theorem aMQ {K:Fg} {σ:St} {H:Hp} {Q:Bool→Hp→Prop} (h:upT K (awP sa sb) σ H Q):aRC (upT K sa) (upT K sb) σ H Q:=by
  obtain ⟨ρ,G,R,s,g,t,k⟩:=h
  refine ⟨ρ,G,_,s,g,t,fun c H1 G1 t1 g1 q=>?_⟩
  cases c with
  | true=>exact ⟨ρ,G1,R,s.mono t1,g1,q,fun b H' G' t2=>k b H' G' (t1.trans t2)⟩
  | false=>exact k false H1 G1 t1 g1 q
theorem aSI {K:Fg} {σ:St} {H:Hp} {Q:Bool→Hp→Prop} (h:upT K (acR sa sb) σ H Q):tOr (upT K sa) (upT K sb) σ H Q:=by
  obtain ⟨ρ,G,R,s,g,t,k⟩:=h
  refine ⟨ρ,G,_,s,g,t,fun c H1 G1 t1 g1 q=>?_⟩
  cases c with
  | false=>exact ⟨ρ,G1,R,s.mono t1,g1,q,fun b H' G' t2=>k b H' G' (t1.trans t2)⟩
  | true=>exact k true H1 G1 t1 g1 q
theorem aMR (ha:PT3 X a sa):PW3 X (.BoolOp .And [a] pos) sa:=aEV ha
theorem aSJ (ha:PT3 X a sa):PW3 X (.BoolOp .Or [a] pos) sa:=aLM ha
theorem aSK (ha:PT3 X a sa) (hb:PW3 X (.BoolOp .And (b :: rest) pos) sb):PW3 X (.BoolOp .And (a :: b :: rest) pos) (awP sa sb):=PW.imp (aLN ha hb) fun _ _ _ h=>aMQ h
theorem aXC (ha:PT3 X a sa) (hb:PW3 X (.BoolOp .Or (b :: rest) pos) sb):PW3 X (.BoolOp .Or (a :: b :: rest) pos) (acR sa sb):=PW.imp (aRD ha hb) fun _ _ _ h=>aSI h
theorem aSL (ha:PT3 X a sa):PT3 X (.UnaryOp .Not a pos) (tK sa):=PT.imp (aLO ha) fun σ H Q h=>by
  obtain ⟨ρ,G,R,s,g,t,k⟩:=h
  exact ⟨ρ,G,_,s,g,t,fun c H1 G1 t1 g1 q=>k (!c) H1 G1 t1 g1 q⟩
def tL (ta tb:dX):dX:=fun ρ G R=>ta ρ G fun x G1=>match x with
  | .bl true=>tb ρ G1 R
  | .bl false=>R (.bl false) G1
  | _=>False
def awQ (ta tb:dX):dX:=fun ρ G R=>ta ρ G fun x G1=>match x with
  | .bl true=>R (.bl true) G1
  | .bl false=>tb ρ G1 R
  | _=>False
def aiQ (ta:dX):dX:=fun ρ G R=>ta ρ G fun x G1=>match x with
  | .bl c=>R (.bl (!c)) G1
  | _=>False
theorem aK4 {op} (h:gG X a ta):gG X (.BoolOp op [a] pos) ta:=aLP h
theorem aSM (ha:gG X a ta) (hb:gG X (.BoolOp .And (b :: rest) pos) tb):gG X (.BoolOp .And (a :: b :: rest) pos) (tL ta tb):=PE.imp (aLQ ha hb) fun σ H Q h=>by
  obtain ⟨ρ,G,R,s,g,t,k⟩:=h
  refine ⟨ρ,G,_,s,g,t,fun v H1 x G1 t1 r g1 q=>?_⟩
  cases r with
  | bl c =>
    refine ⟨c,rfl,?_⟩
    cases c with
    | true=>exact ⟨ρ,G1,R,s.mono t1,g1,q,fun b H' d G' t2=>k b H' d G' (t1.trans t2)⟩
    | false=>exact k _ H1 _ G1 t1 (.bl false) g1 q
  | _=>exact q.elim
theorem aXD (ha:gG X a ta) (hb:gG X (.BoolOp .Or (b :: rest) pos) tb):gG X (.BoolOp .Or (a :: b :: rest) pos) (awQ ta tb):=PE.imp (aRG ha hb) fun σ H Q h=>by
  obtain ⟨ρ,G,R,s,g,t,k⟩:=h
  refine ⟨ρ,G,_,s,g,t,fun v H1 x G1 t1 r g1 q=>?_⟩
  cases r with
  | bl c =>
    refine ⟨c,rfl,?_⟩
    cases c with
    | false=>exact ⟨ρ,G1,R,s.mono t1,g1,q,fun b H' d G' t2=>k b H' d G' (t1.trans t2)⟩
    | true=>exact k _ H1 _ G1 t1 (.bl true) g1 q
  | _=>exact q.elim
theorem aSN (ha:gG X a ta):gG X (.UnaryOp .Not a pos) (aiQ ta):=PE.imp (aLR ha) fun σ H Q h=>by
  obtain ⟨ρ,G,R,s,g,t,k⟩:=h
  refine ⟨ρ,G,_,s,g,t,fun v H1 x G1 t1 r g1 q=>?_⟩
  cases r with
  | bl c=>exact ⟨c,rfl,k _ H1 _ G1 t1 (.bl _) g1 q⟩
  | _=>exact q.elim
def aXE (t:TT3) (ta tb:dX):dX:=fun ρ G R=>t ρ G fun c G1=>if c=true then ta ρ G1 R else tb ρ G1 R
end
section
variable {X:Cx} {e:Expr} {es:List Expr} {te:dX} {t:zQ} {pos:Pos}
def aH:zQ:=fun _ G R=>R [] G
def aA (ta:dX) (tr:zQ):zQ:=fun ρ G R=>ta ρ G fun x G1=>tr ρ G1 fun xs G2=>R (x :: xs) G2
theorem aB6:PA3 X [] aH:=PA.imp aM9 fun σ H Q h=>by
  obtain ⟨ρ,G,R,s,g,t,k⟩:=h
  exact k [] H [] G (.refl H) .nil g t
theorem abQ (ha:gG X e te) (hr:PA3 X es t) (hs:starEach (e :: es) X.env=(false,eval e X.env) :: starEach es X.env:=by rfl):PA3 X (e :: es) (aA te t):=PA.imp (aF8 ha hr hs) fun σ H Q h=>by
  obtain ⟨ρ,G,R,s,g,t,k⟩:=h
  refine ⟨ρ,G,_,s,g,t,fun v H1 x G1 t1 r g1 q=>?_⟩
  refine ⟨ρ,G1,_,s.mono t1,g1,q,fun vs H2 xs G2 t2 rs g2 q'=>?_⟩
  exact k (v :: vs) H2 (x :: xs) G2 (t1.trans t2) (.cons (r.mono t2) rs) g2 q'
def a6Y (t:zQ):dX:=fun ρ G R=>t ρ G fun xs G1=>xs.length≤sizeLine∧R (.tup xs) G1
def yH (t:zQ):dX:=fun ρ G R=>t ρ G fun xs G1=>xs.length≤sizeLine∧∀ p,G1 p=none→R (.ref p) (aQ G1 p (.lst xs))
theorem aSO {x1} (h:PA3 X es t):gG X (.Tuple es x1 pos) (a6Y t):=PE.imp (aMA h) fun σ H Q h=>by
  obtain ⟨ρ,G,R,s,g,t,k⟩:=h
  refine ⟨ρ,G,_,s,g,t,fun vs H1 xs G1 t1 r g1 q=>?_⟩
  refine ⟨by rw [← r.length];exact q.1,fun p hp=>?_⟩
  have sn:Same H1 (upd H1 p (.tup vs)):=cU hp
  exact k (.ref p) _ (.tup xs) G1 (t1.trans (.same sn)) (.tup (SqT.of aV) (r.mono (.same sn)) aV) (g1.same sn) q.2
theorem aSP (h:PA3 X es t):gG X (.List es pos) (yH t):=PE.imp (PE.kf (aMB h)) fun σ H Q h=>by
  obtain ⟨ρ,G,R,s,g,t,k⟩:=h
  refine ⟨ρ,G,_,s,g,t,fun vs H1 xs G1 t1 r g1 q=>?_⟩
  refine ⟨by rw [← r.length];exact q.1,fun p hp kf=>?_⟩
  have sn:Same H1 (upd H1 p (.lst vs)):=cU hp
  exact k (.ref p) _ (.ref p) _ (t1.trans (.same sn)) (.ref p) (g1.put (u := .lst xs) hp ⟨vs,aV,r.mono (.same sn)⟩) (q.2 p (tH g1 hp kf))
end
end L2
namespace L2
open PySem PySem.Spec PyProof.Rows
section
variable {X:Cx} {a b c:Expr} {ta tb tc:dX} {pos:Pos}
def rI3 (C:Int→Int→Prop) (g:Int→Int→Int):R3:=fun x y G R=>match x,y with
  | .int i,.int j=>C i j∧R (.int (g i j)) G
  | _,_=>False
def aSR (g:Int→Int→Int):R3:=fun x y G R=>match x,y with
  | .int i,.int j=>R (.int (g i j)) G
  | _,_=>False
def aFS (g:Int→Int→Bool):R3:=fun x y G R=>match x,y with
  | .int i,.int j=>R (.bl (g i j)) G
  | _,_=>False
theorem awR {f:Value→Value→Sem Value} {C:Int→Int→Prop} {g:Int→Int→Int} (h:OpR X f (rI C fun i j => .int (g i j))):aiP X f (rI3 C g):=by
  refine ⟨_,h,fun H x y vx vy G R Q rx ry gh h k=>?_⟩
  cases rx with
  | int i =>
    cases ry with
    | int j=>exact ⟨i,j,rfl,rfl,h.1,fun _=>k _ H _ G (.refl H) (.int _) gh h.2⟩
    | _=>exact False.elim h
  | _=>exact False.elim h
theorem aMS {f:Value→Value→Sem Value} {g:Int→Int→Int} (h:OpR X f (rI0 fun i j => .int (g i j))):aiP X f (aSR g):=by
  refine ⟨_,h,fun H x y vx vy G R Q rx ry gh h k=>?_⟩
  cases rx with
  | int i =>
    cases ry with
    | int j=>exact ⟨i,j,rfl,rfl,fun _=>k _ H _ G (.refl H) (.int _) gh h⟩
    | _=>exact False.elim h
  | _=>exact False.elim h
theorem auX {f:Value→Value→Sem Value} {g:Int→Int→Bool} (h:OpR X f (rI0 fun i j => .bl (g i j))):yV X f (aFS g):=by
  refine ⟨_,h,fun H x y vx vy G R Q rx ry gh h k=>?_⟩
  cases rx with
  | int i =>
    cases ry with
    | int j=>exact ⟨i,j,rfl,rfl,k _ H _ G (.refl H) (.bl _) gh h⟩
    | _=>exact False.elim h
  | _=>exact False.elim h
def amN:R3:=aSR fun i j=>i - j
def acS:R3:=rI3 aAQ fun i j=>i * j
def tM:R3:=rI3 aLY fun i j=>i / j
def m6:R3:=rI3 (fun _ j=>0 < j) fun i j=>i % j
def acT:R3:=rI3 aLZ fun i j=>i ^ j.toNat
theorem aSS:aiP X (binaryOp .Sub) amN:=aMS aM1
theorem aST:aiP X (binaryOp .Mult) acS:=awR aM2
theorem aMT:aiP X (binaryOp .FloorDiv) tM:=awR aF2
theorem aSU:aiP X (binaryOp .Mod) m6:=awR aM3
theorem aSV:aiP X (binaryOp .Pow) acT:=awR aM4
def aB7:R3:=aFS fun i j=>decide (i < j)
def ayX:R3:=aFS fun i j=>decide (j < i)
def aMU:R3:=aFS fun i j=>decide (j≤i)
theorem aXF:yV X (compareOp .Lt) aB7:=auX aRR
theorem aXG:yV X (compareOp .Gt) ayX:=auX aRT
theorem aXH:yV X (compareOp .GtE) aMU:=auX aRU
def ayY:R3:=fun x y G R=>match x,y with
  | .int i,.int j=>R (.bl (decide (i≤j))) G
  | .str i,.str j=>R (.bl (!decide (j.cps.toList < i.cps.toList))) G
  | _,_=>False
theorem ayZ:OpR X (compareOp .LtE) (fun x y H Q=>∃ i j,x = .str i∧y = .str j∧Q (.bl (!decide (j.cps.toList < i.cps.toList))) H):=by
  intro pins s σ H x y v u Q I rx ry h
  obtain ⟨i,j,rfl,rfl,q⟩:=h
  obtain ⟨t,rfl⟩:=rx
  obtain ⟨t',rfl⟩:=ry
  exact PySem.P.le_str ⟨.bl _,H,I,rfl,q⟩
theorem aXI:yV X (compareOp .LtE) ayY:=by
  refine ⟨_,aRS.or ayZ,fun H x y vx vy G R Q rx ry gh h k=>?_⟩
  cases rx with
  | int i =>
    cases ry with
    | int j=>exact .inl ⟨i,j,rfl,rfl,k _ H _ G (.refl H) (.bl _) gh h⟩
    | _=>exact False.elim h
  | str i =>
    cases ry with
    | str j=>exact .inr ⟨i,j,rfl,rfl,k _ H _ G (.refl H) (.bl _) gh h⟩
    | _=>exact False.elim h
  | _=>exact False.elim h
def nU:R3:=fun x y G R=>match x,y with
  | .int i,.int j=>R (.int (i+j)) G
  | .str i,.str j=>i.length+j.length≤sizeLine∧R (.str (i++j)) G
  | .tup xs,.tup ys=>xs.length+ys.length≤sizeLine∧R (.tup (xs++ys)) G
  | .ref l,.ref m=>match G l,G m with
    | some (.lst xs),some (.lst ys)=>xs.length+ys.length≤sizeLine∧∀ p,G p=none→R (.ref p) (aQ G p (.lst (xs++ys)))
    | _,_=>False
  | _,_=>False
theorem aB8:OpR X (binaryOp .Add) (fun x y H Q=>∃ a b ys,x = .ref a∧y = .ref b∧SqT X.K H a []∧SqT X.K H b ys∧Q (.ref b) H):=by
  intro pins s σ H x y v u Q I rx ry h
  obtain ⟨a,b,ys,rfl,rfl,ha,hb,q⟩:=h
  cases rx
  cases ry
  obtain ⟨its,r1,p1,_⟩:=I.tuple ha
  obtain ⟨its2,r2,p2,_⟩:=I.tuple hb
  cases r1
  obtain ⟨⟨cls,dd,data,sl⟩,ho,hc,n,hd⟩:=id p1
  obtain ⟨⟨cls2,dd2,data2,sl2⟩,ho2,hc2,n2,hd2⟩:=id p2
  simp only at hc hd hc2 hd2
  subst hc hd hc2 hd2
  exact concat_meets ⟨_,ho,rfl⟩ ⟨_,ho2,rfl⟩ noFill_tuple_add seq_tuple_add PySem.F.slot_tuple_add PySem.F.entry_tuple_add (PySem.F.args_tuple_add_2 _ _)
      (tuple_addW0 a b #[] its2.toArray n n2 dd dd2 sl sl2 (by simp)) ⟨ho,ho2,⟨.ref b,H,I,rfl,q⟩⟩
theorem aSW:aiP X (binaryOp .Add) nU:=by
  refine ⟨_,aM0.or (auN.or (aFI.or (aB8.or aMN))),fun H x y vx vy G R Q rx ry gh h k=>?_⟩
  cases rx with
  | int i =>
    cases ry with
    | int j=>exact .inl ⟨i,j,rfl,rfl,fun _=>k _ H _ G (.refl H) (.int _) gh h⟩
    | _=>exact False.elim h
  | str i =>
    cases ry with
    | str j=>exact .inr (.inl ⟨i,j,rfl,rfl,h.1,fun _=>k _ H _ G (.refl H) (.str _) gh h.2⟩)
    | _=>exact False.elim h
  | @tup a xs ds ha ra ea =>
    cases ry with
    | @tup b ys es hb rb eb =>
      by_cases hn:ds=[]
      · subst hn
        cases ra
        exact .inr (.inr (.inr (.inl ⟨a,b,ys,rfl,rfl,ha,hb,fun _=>k _ H _ G (.refl H) (.tup hb rb eb) gh h.2⟩)))
      · refine .inr (.inr (.inl ⟨a,b,xs,ys,rfl,rfl,ha,hb,fun z=>hn (ra.acP.mp z),by rw [← ra.length,← rb.length];exact h.1,fun z _=>?_,fun _ p hp _=>?_⟩))
        · subst z
          cases rb
          have h2:=h.2
          rw [List.append_nil] at h2
          exact k _ H _ G (.refl H) (.tup ha ra ea) gh h2
        · have sn:Same H (upd H p (.tup (xs++ys))):=cU hp
          exact k _ _ _ G (.same sn) (.tup (SqT.of aV) ((ra.append rb).mono (.same sn)) aV) (gh.same sn) h.2
    | _=>exact False.elim h
  | ref l =>
    cases ry with
    | ref m =>
      have h':(match G l,G m with
        | some (.lst xs),some (.lst ys)=>xs.length+ys.length≤sizeLine∧∀ p,G p=none→R (.ref p) (aQ G p (.lst (xs++ys)))
        | _,_=>False):=h
      split at h'
      · rename_i xs ys e1 e2
        obtain ⟨xv,f1,r1⟩:=gh l _ e1
        obtain ⟨yv,f2,r2⟩:=gh m _ e2
        refine .inr (.inr (.inr (.inr ⟨l,m,xv,yv,rfl,rfl,f1,f2,by rw [← r1.length,← r2.length];exact h'.1,fun p hp kf=>?_⟩)))
        have sn:Same H (upd H p (.lst (xv++yv))):=cU hp
        exact k _ _ _ _ (.same sn) (.ref p) (gh.put (u := .lst (xs++ys)) hp ⟨_,aV,(r1.append r2).mono (.same sn)⟩) (h'.2 p (tH gh hp kf))
      · exact h'.elim
    | _=>exact False.elim h
  | _=>exact False.elim h
def az0:R3:=fun x y G R=>match x,y with
  | .non,.non=>R (.bl true) G
  | _,.non=>R (.bl false) G
  | .bl i,.bl j=>R (.bl (i == j)) G
  | .int _,.bl _=>R (.bl false) G
  | .str _,.bl _=>R (.bl false) G
  | .non,.bl _=>R (.bl false) G
  | .tup _,.bl _=>R (.bl false) G
  | .ref _,.bl _=>R (.bl false) G
  | _,_=>False
def aeQ:R3:=fun x y G R=>az0 x y G fun d G'=>match d with
  | .bl k=>R (.bl (!k)) G'
  | _=>False
theorem isV (x:V) (v:Value) (k:Bool) (r:RelV x v):(v == .bool k)=decide (x = .bl k):=by
  cases x with
  | non=>cases r;rfl
  | bl b =>
    cases r
    cases b <;> cases k <;> rfl
  | int _=>obtain ⟨t,rfl⟩:=r;rfl
  | str _=>obtain ⟨t,rfl⟩:=r;rfl
  | byt _=>obtain ⟨t,rfl⟩:=r;rfl
  | flt _=>obtain ⟨t,rfl⟩:=r;rfl
  | ref _=>cases r;rfl
  | ty _=>cases r;rfl
theorem amO (x:V) (v:Value) (k:Bool) (r:RelV x v):plainIs v (.bool k)=true:=by
  cases x with
  | non=>cases r;rfl
  | bl b=>cases r;rfl
  | int _=>obtain ⟨t,rfl⟩:=r;rfl
  | str _=>obtain ⟨t,rfl⟩:=r;rfl
  | byt _=>obtain ⟨t,rfl⟩:=r;rfl
  | flt _=>obtain ⟨t,rfl⟩:=r;rfl
  | ref _=>cases r;rfl
  | ty _=>cases r;rfl
theorem aFT:OpR X (compareOp .Is) (fun x y H Q=>∃ k,y = .bl k∧Q (.bl (decide (x = .bl k))) H):=by
  intro pins s σ H x y v u Q I rx ry h
  obtain ⟨k,rfl,q⟩:=h
  cases ry
  exact wpAny_is_plain (amO x v k rx) ⟨.bl _,H,I,by rw [isV x v k rx];rfl,q⟩
theorem az1:OpR X (compareOp .IsNot) (fun x y H Q=>∃ k,y = .bl k∧Q (.bl (!decide (x = .bl k))) H):=by
  intro pins s σ H x y v u Q I rx ry h
  obtain ⟨k,rfl,q⟩:=h
  cases ry
  exact wpAny_isNot_plain (amO x v k rx) ⟨.bl _,H,I,by rw [isV x v k rx];rfl,q⟩
theorem aXJ:yV X (compareOp .Is) az0:=by
  refine ⟨_,aM6.or aFT,fun H x y vx vy G R Q rx ry gh h k=>?_⟩
  cases ry with
  | non =>
    refine .inl ⟨rfl,?_⟩
    cases rx with
    | non=>exact k _ H _ G (.refl H) (.bl _) gh h
    | _=>exact k _ H _ G (.refl H) (.bl _) gh h
  | bl j =>
    refine .inr ⟨j,rfl,?_⟩
    cases rx with
    | bl i =>
      have e:decide (V.bl i=V.bl j)=(i == j):=by cases i <;> cases j <;> rfl
      rw [e]
      exact k _ H _ G (.refl H) (.bl _) gh h
    | ty n=>exact False.elim h
    | _=>exact k _ H _ G (.refl H) (.bl _) gh h
  | _=>cases rx <;> exact False.elim h
theorem aMV:yV X (compareOp .IsNot) aeQ:=by
  refine ⟨_,aF3.or az1,fun H x y vx vy G R Q rx ry gh h k=>?_⟩
  cases ry with
  | non =>
    refine .inl ⟨rfl,?_⟩
    cases rx with
    | non=>exact k _ H _ G (.refl H) (.bl _) gh h
    | _=>exact k _ H _ G (.refl H) (.bl _) gh h
  | bl j =>
    refine .inr ⟨j,rfl,?_⟩
    cases rx with
    | bl i =>
      have e:decide (V.bl i=V.bl j)=(i == j):=by cases i <;> cases j <;> rfl
      rw [e]
      exact k _ H _ G (.refl H) (.bl _) gh h
    | ty n=>exact False.elim h
    | _=>exact k _ H _ G (.refl H) (.bl _) gh h
  | _=>cases rx <;> exact False.elim h
def bZ (G:Gp) (a:Addr):Option (List D):=match G a with
  | some (.lst ds)=>some ds
  | some (.rol ds)=>some ds
  | _=>none
theorem gW {K:Fg} {H:Hp} {G:Gp} (g:HR K H G) {a:Addr} {ds:List D} (e:bZ G a=some ds):∃ xs,SqL K H a xs∧iG K H ds xs:=by
  unfold bZ at e
  split at e
  · rename_i ds' q
    cases e
    obtain ⟨xs,h1,h2⟩:=g a _ q
    exact ⟨xs,SqL.of h1,h2⟩
  · rename_i ds' q
    cases e
    exact g a _ q
  · cases e
def tO:R3:=fun x y G R=>match x,y with
  | .tup xs,.int i=>match atI xs i with
    | some d=>R d G
    | none=>False
  | .str z,.int i=>z.length≤sizeLine∧match atI z.cps.toList i with
    | some c=>R (.str ⟨#[c]⟩) G
    | none=>False
  | .ref p,.int i=>match bZ G p with
    | some xs=>(match atI xs i with
      | some d=>R d G
      | none=>False)
    | none=>False
  | _,_=>False
theorem aB9 {K:Fg} {H:Hp} {ds:List D} {xs:List V} (r:iG K H ds xs) {i:Int} {d:D} (e:atI ds i=some d):∃ v,atI xs i=some v∧RD K H d v:=by
  unfold atI at e ⊢
  rw [← r.length]
  cases q:ixN ds.length i with
  | none=>rw [q] at e;cases e
  | some j =>
    rw [q] at e
    exact r.get e
theorem aXK (ha:gG X a ta) (hb:gG X b tb) (hs:ao4 b):gG X (.Subscript a b pos) (aN tO ta tb):=by
  refine PE.imp (aS5 aMK ha hb hs) fun _ _ _ h=>auW ?_ h
  intro H x y vx vy G R Q rx ry gh h k
  cases rx with
  | @tup p xs ds hp r =>
    cases ry with
    | int i =>
      have h':(match atI ds i with
        | some d=>R d G
        | none=>False):=h
      split at h'
      · rename_i d e
        obtain ⟨v,e1,e2⟩:=aB9 r e
        exact .inr (.inl ⟨p,xs,i,v,rfl,rfl,hp,e1,k v H d G (.refl H) e2 gh h'⟩)
      · exact h'.elim
    | _=>exact False.elim h
  | str z =>
    cases ry with
    | int i =>
      have h':z.length≤sizeLine∧(match atI z.cps.toList i with
        | some c=>R (.str ⟨#[c]⟩) G
        | none=>False):=h
      obtain ⟨hz,h'⟩:=h'
      split at h'
      · rename_i d e
        exact .inr (.inr ⟨z,i,d,rfl,rfl,hz,e,k _ H _ G (.refl H) (.str _) gh h'⟩)
      · exact h'.elim
    | _=>exact False.elim h
  | ref p =>
    cases ry with
    | int i =>
      have h':(match bZ G p with
        | some xs=>(match atI xs i with
          | some d=>R d G
          | none=>False)
        | none=>False):=h
      split at h'
      · rename_i ds e
        obtain ⟨xs,hp,r⟩:=gW gh e
        split at h'
        · rename_i d e'
          obtain ⟨v,e1,e2⟩:=aB9 r e'
          exact .inl ⟨p,xs,i,v,rfl,rfl,hp,e1,k v H d G (.refl H) e2 gh h'⟩
        · exact h'.elim
      · exact h'.elim
    | _=>exact False.elim h
  | _=>exact False.elim h
abbrev TO3:=aY→Gp→(Option Int→Gp→Prop)→Prop
def upO (K:Fg) (t:TO3):TO:=fun σ H Q=>∃ ρ G R,SR K H ρ σ∧HR K H G∧t ρ G R∧∀ i H' G',Ts H H'→HR K H' G'→R i G'→Q i H'
abbrev PO3 (X:Cx) (e:Option Expr) (t:TO3):Prop:=PO X e (upO X.K t)
theorem PO.imp {e:Option Expr} {t t':TO} (h:PO X e t) (k:∀ σ H Q,t' σ H Q→t σ H Q):PO X e t':=fun pins s σ H Q I q=>h pins s σ H Q I (k _ _ _ q)
def aiR:TO3:=fun _ G R=>R none G
def auY (t:dX):TO3:=fun ρ G R=>t ρ G fun x G1=>match x with
  | .int i=>R (some i) G1
  | _=>False
theorem aMW:PO3 X none aiR:=PO.imp aFF fun σ H Q h=>by
  obtain ⟨ρ,G,R,s,g,t,k⟩:=h
  exact k none H G (.refl H) g t
theorem aMX {e:Expr} {te:dX} (h:gG X e te):PO3 X (some e) (auY te):=PO.imp (aFG h) fun σ H Q h=>by
  obtain ⟨ρ,G,R,s,g,t,k⟩:=h
  refine ⟨ρ,G,_,s,g,t,fun v H1 x G1 t1 r g1 q=>?_⟩
  cases r with
  | int i=>exact ⟨i,rfl,k _ H1 G1 t1 g1 q⟩
  | _=>exact False.elim q
def cutD {α:Type} (xs:List α) (lo hi:Option Int):List α:=(xs.drop (HT.sIx xs.length 0 lo)).take (HT.sIx xs.length xs.length hi - HT.sIx xs.length 0 lo)
end
end L2
namespace L2
open PySem PySem.Spec PyProof.Rows
section
variable {X:Cx} {st:Stmt} {rest:List Stmt} {t u:cI} {e:Expr} {te:dX} {pos:Pos}
def dY:cI:=fun F ρ G=>F.nx ρ G
def bL (t u:cI):cI:=fun F ρ G=>t { F with nx:=u F } ρ G
theorem aSX:aeP X [] dY:=PSs.imp aEW fun F σ H h=>by
  obtain ⟨ρ,G,E,s,g,q,d⟩:=h
  exact d.nx ρ G σ H s g q
theorem aMY {K:Fg} {F:Ends} {σ:St} {H:Hp} (h:upS K (bL t u) F σ H):aRH (upS K t) (upS K u) F σ H:=by
  obtain ⟨ρ,G,E,s,g,q,d⟩:=h
  exact ⟨ρ,G,_,s,g,q,⟨fun ρ' G' σ' H' s1 g1 h=>⟨ρ',G',E,s1,g1,h,d⟩,d.rt,d.bk,d.ct⟩⟩
theorem aMZ (h1:PS3 X st t) (h2:aeP X rest u):aeP X (st :: rest) (bL t u):=PSs.imp (aAM h1 h2) fun _ _ _ h=>aMY h
theorem aSY (h1:PS3 X st t):aeP X [st] t:=aEX h1
def aFV:cI:=fun F ρ G=>F.bk ρ G
def aN0:cI:=fun F ρ G=>F.ct ρ G
theorem aN1:PS3 X (.Pass pos) dY:=PS.imp aEY fun F σ H h=>by
  obtain ⟨ρ,G,E,s,g,q,d⟩:=h
  exact d.nx ρ G σ H s g q
def iY (te:dX):cI:=fun F ρ G=>te ρ G fun _ G1=>F.nx ρ G1
theorem aN2 (he:gG X e te) (hs:swapsWith e none pos.line X.env=pure false:=by rfl):PS3 X (.Expr e pos) (iY te):=PS.imp (aEZ he hs) fun F σ H h=>by
  obtain ⟨ρ,G,E,s,g,q,d⟩:=h
  exact ⟨ρ,G,_,s,g,q,fun v H' x G' t1 r g1 h=>d.nx ρ G' σ H' (s.mono t1) g1 h⟩
def dZ (te:dX):cI:=fun F ρ G=>te ρ G F.rt
theorem aSZ (he:gG X e te):PS3 X (.Return (some e) pos) (dZ te):=PS.imp (aLS he) fun F σ H h=>by
  obtain ⟨ρ,G,E,s,g,q,d⟩:=h
  exact ⟨ρ,G,_,s,g,q,fun v H' x G' t1 r g1 h=>d.rt x G' v H' r g1 h⟩
def aN3:cI:=fun F _ G=>F.rt .non G
def m7 (c:TT3) (t u:cI):cI:=fun F ρ G=>c ρ G fun b G1=>if b=true then t F ρ G1 else u F ρ G1
theorem aXM {c:Expr} {a b:List Stmt} {tc:TT3} (hc:PT3 X c tc) (ha:aeP X a t) (hb:aeP X b u):PS3 X (.If c a b pos) (m7 tc t u):=PS.imp (aRJ hc ha hb) fun F σ H h=>by
  obtain ⟨ρ,G,E,s,g,q,d⟩:=h
  refine ⟨ρ,G,_,s,g,q,fun b H' G' t1 g1 h=>?_⟩
  cases b with
  | true=>exact ⟨ρ,G',E,s.mono t1,g1,h,d⟩
  | false=>exact ⟨ρ,G',E,s.mono t1,g1,h,d⟩
def oM (i:Nat) (te:dX):cI:=fun F ρ G=>te ρ G fun x G1=>F.nx (a3M ρ i x) G1
theorem aT0 {i:Nat} {x:Str} {pos':Pos} (hN:X.N.Nodup) (hi:X.N[i]?=some x) (hx:Loc X.env.scope x) (he:gG X e te) (hs:swapsWith e (some (.Name x pos')) pos.line X.env=pure false:=by rfl) (hf:X.fn x=true∨X.env.scope.names.lookup x=some .local:=by first | exact .inl rfl | exact .inr rfl | assumption) :
    PS3 X (.Assign [.Name x pos'] e pos) (oM i te):=PS.imp (aLU hN hi hx he hs hf) fun F σ H h=>by
  obtain ⟨ρ,G,E,s,g,q,d⟩:=h
  exact ⟨ρ,G,_,s,g,q,fun v H' x G' t1 r g1 h=>d.nx _ G' _ H' ((s.mono t1).set r i) g1 h⟩
end
section
variable {X:Cx} {body:List Stmt} {tb:cI} {e:Expr} {te:dX} {pos:Pos}
def aT1 (i:Nat) (te:dX) (tb:cI):cI:=fun F ρ G=>te ρ G fun x G1=>match x with
  | .ref p=>(match bZ G1 p with
    | some xs=>∃ P:Nat→aY→Gp→Prop,P 0 ρ G1∧(∀ k ρ G,k≤xs.length→P k ρ G→bZ G p=some xs) ∧
        (∀ k d ρ G,xs[k]?=some d→P k ρ G→tb { F with nx:=P (k+1),ct:=P (k+1),bk:=F.nx } (a3M ρ i d) G)∧∀ ρ G,P xs.length ρ G→F.nx ρ G
    | none=>False)
  | _=>False
theorem aBA {K:Fg} {J:It} {g:TG} {tb:TS} {F:Ends} {σ:St} {H:Hp} {n:Nat} (Pv:Nat→St→Hp→Prop) (h0:Pv 0 σ H)
    (stop:∀ σ H,Pv n σ H→J.stop n H) (go:∀ i σ H,i < n→Pv i σ H→J.go i H)
    (hs:∀ i x σ H H',i < n→Pv i σ H→J.yld i H x H'→g x σ H' fun σ2 H2=>tb { F with nx:=Pv (i+1),ct:=Pv (i+1),bk:=F.nx } σ2 H2) (hd:∀ σ H,Pv n σ H→F.nx σ H) :
    ∃ W:Nat→Nat→St→Hp→Prop,(∃ m,W 0 m σ H)∧∀ i m σ H,W i m σ H →
      (J.stop i H∧F.nx σ H)∨(J.go i H∧∃ N:St→Hp→Prop,(∀ σ' H',N σ' H'→∃ m',m' < m∧W (i+1) m' σ' H')∧∀ x H',J.yld i H x H'→g x σ H' fun σ2 H2=>tb { F with nx:=N,ct:=N,bk:=F.nx } σ2 H2):=by
  refine ⟨fun i m σ H=>m=n - i∧i≤n∧Pv i σ H,⟨n,by simp,Nat.zero_le _,h0⟩,?_⟩
  rintro i m σ H ⟨rfl,hi,p⟩
  by_cases hlt:i < n
  · exact .inr ⟨go i σ H hlt p,Pv (i+1),fun σ' H' p'=>⟨n - (i+1),by omega,rfl,hlt,p'⟩,fun x H' y=>hs i x σ H H' hlt p y⟩
  · have e:i=n:=by omega
    subst e
    exact .inl ⟨stop σ H p,hd σ H p⟩
def aN4 (i:Nat) (ta:zQ) (tb:cI):cI:=fun F ρ G=>ta ρ G fun xs G1=>match xs with
  | [.int j]=>-(2 ^ 62)≤j∧j < 2 ^ 62∧∃ P:Nat→aY→Gp→Prop,P 0 ρ G1∧(∀ k ρ G,k < j.toNat→P k ρ G→tb { F with nx:=P (k+1),ct:=P (k+1),bk:=F.nx } (a3M ρ i (.int k)) G)∧∀ ρ G,P j.toNat ρ G→F.nx ρ G
  | _=>False
end
abbrev bM:=Addr→Gp→Prop
abbrev zL:=List D→Gp→oK→bM→Prop
def UpX (K:Fg) (EX:bM) (E:XK):Prop:=∀ C H' G',HR K H' G'→EX C G'→E (.ref C) none H'
def gB (K:Fg) (sp:zL):Sp:=fun vs H Q E=>∃ ds G R EX,iG K H ds vs∧HR K H G∧sp ds G R EX∧(∀ v H' d G',RD K H' d v→HR K H' G'→R d G'→Q v H')∧UpX K EX E
section
variable {X:Cx} {CX:CXT} {k:Nat} {f C:Addr} {fd:FuncData} {ps:List Str} {sp:zL} {E:XK} {EX:bM} {x:Str} {p pos:Pos} {e:Expr} {es:List Expr} {t:zQ}
def aXN (n m:Nat) (tb:bM→cI):zL:=fun ds G R EX=>ds.length=m∧tb EX ⟨fun _ G'=>R .non G',R,fun _ _=>False,fun _ _=>False⟩ (aoB n ds) G
end
end L2
namespace L2
open PySem PySem.Spec PyProof.Rows
def tQ (P:Program) (w:World):CXT:=fun outer H s E e s'=>∃ (x C:Addr) (H':Hp) (B:Heap),e = .ref x∧Fly B outer x (.ref C) s'.heap∧HOk P w H' B ∧
  (∀ b o,s.heap.get? b=some o→H b=none→b ∉ frs outer→B.get? b=some o)∧(∀ b o,s.heap.get? b=some o→b ∉ frs outer→∃ o',B.get? b=some o') ∧
  Un (frs outer) [] H H' s.heap s'.heap∧s'.os=s.os∧AllBare s'.gens∧E (.ref C) none H'
theorem awS {l:List Env} {b:Addr} (h:b∈frs l):∃ env∈l,env.frame=some b:=List.mem_filterMap.mp h
theorem aoD {l:List Env} {b:Addr} {env:Env} (h:env∈l) (e:env.frame=some b):b∈frs l:=List.mem_filterMap.mpr ⟨env,h,e⟩
section
variable {qt:Bool} {P:Program} {w:World} {K:Fg} {mg:Str→Option Value} {base:Heap} {N:List Str} {qual:Str} {scope:Scope} {f:Addr} {cd:Value} {A:Around} {outer:List Env} {s₀:Shared} {H₀:Hp} {E:XK}
abbrev cx1 (qt:Bool) (P:Program) (w:World) (K:Fg) (mg:Str→Option Value) (base:Heap) (N:List Str) (qual:Str) (scope:Scope) (f:Addr) (cd:Value) (A:Around) (outer:List Env) (s₀:Shared) (H₀:Hp) (E:XK):Cx:=a0Y qt (tQ P w) P w K mg base N qual scope f cd A outer s₀ H₀ E
theorem sV {X:Cx} {pins:List (Addr×Obj)} {σ:St} {H:Hp} {s:Shared} (I:Inv X pins σ H s) (hst:X.stack=X.env :: X.outer) (hf:X.env.frame=some X.env.locals) {b:Addr} {o:Obj} (e:X.s₀.heap.get? b=some o) (n:b ∉ frs X.outer):b ∉ frs X.stack:=fun hb=>by
  obtain ⟨env,he,hfr⟩:=awS hb
  rw [hst] at he
  rcases List.mem_cons.mp he with rfl | he
  · have z:X.env.locals=b:=Option.some.inj (hf.symm.trans hfr)
    have h1:=I.ok.above
    have h2:=Heap.lt_size e
    rw [z] at h1
    exact absurd (Nat.lt_of_lt_of_le h2 h1) (Nat.lt_irrefl _)
  · exact n (aoD he hfr)
theorem aFW {pins:List (Addr×Obj)} {σ:St} {H:Hp} {s:Shared} {C e:Addr} {us:List Value} {h':Heap} (I:Inv (cx1 qt P w K mg base N qual scope f cd A outer s₀ H₀ E) pins σ H s) (hm:Heap.MadeExcOf s.heap h' e (.ref C) us) (q:E (.ref C) none H) :
    (cx1 qt P w K mg base N qual scope f cd A outer s₀ H₀ E).xe (.ref e) { s with heap:=h' }:=by
  have hst:(cx1 qt P w K mg base N qual scope f cd A outer s₀ H₀ E).stack=(cx1 qt P w K mg base N qual scope f cd A outer s₀ H₀ E).env :: outer:=rfl
  have hin:∀ env∈(cx1 qt P w K mg base N qual scope f cd A outer s₀ H₀ E).stack,∀ b,env.frame=some b→b∈frs (cx1 qt P w K mg base N qual scope f cd A outer s₀ H₀ E).stack:=fun env he b hb=>aoD he hb
  have hB:∀ b o,(PySem.W.hideAll s.heap (frs (cx1 qt P w K mg base N qual scope f cd A outer s₀ H₀ E).stack)).get? b=some o→s.heap.get? b=some o:=fun b o e=>PySem.W.of_hideAll _ e
  have toB:∀ b o,s.heap.get? b=some o→b ∉ frs (cx1 qt P w K mg base N qual scope f cd A outer s₀ H₀ E).stack→(PySem.W.hideAll s.heap (frs (cx1 qt P w K mg base N qual scope f cd A outer s₀ H₀ E).stack)).get? b=some o:=fun b o e n=>PySem.W.hideAll_get _ e n
  have fr:=PySem.W.funFrames_hide I.stack hin
  refine auI (B:=PySem.W.hideAll s.heap (frs (cx1 qt P w K mg base N qual scope f cd A outer s₀ H₀ E).stack)) (h0:=s.heap) I.ok.frames rfl hB fr hm fun h2 k1 k4=>?_
  have up:∀ b o,s.heap.get? b=some o→(∀ vs,o.data ≠ .fields vs)→∃ sl,h2.get? b=some { o with slots:=sl }:=fun b o e nd=>k4 b o (hm.keeps b o e) nd
  have hfd:∀ b∈frs outer,∀ o,s.heap.get? b=some o→∀ vs,o.data ≠ .fields vs:=fun b hb o e=>by
    obtain ⟨_,o',ho',hd⟩:=I.a4V.mem hb
    rw [e] at ho';cases ho'
    exact hd
  refine ⟨e,C,H,_,rfl,k1,?_,fun b o eb nb hb=>?_,fun b o eb hb=>?_,⟨fun b o eb nb hb _=>?_,fun b o eb nb hb _=>?_,fun b o eb nb hx=>I.base.free b o eb nb hx,fun b o eb hx=>?_,I.base.tups,I.base.tG,I.base.a4U⟩,I.os,I.bare,q⟩
  · intro b o hb
    refine (I.hok b o hb).stay (fun c u hc eu=>toB c u eu fun hz=>?_) (fun _ z=>z) fun _ _ z=>z
    have n:=I.anU c hz
    rcases hc with rfl | hc
    · rw [hb] at n;cases n
    · rw [hc] at n;cases n
  · exact toB b o (I.base.keep b o eb nb hb (by simp [a0Y])) (sV I hst rfl eb hb)
  · obtain ⟨o',e'⟩:=I.base.there b o eb (by simp [a0Y])
    exact ⟨o',toB b o' e' (sV I hst rfl eb hb)⟩
  · exact k1.stays b o (toB b o (I.base.keep b o eb nb hb (by simp [a0Y])) (sV I hst rfl eb hb))
  · obtain ⟨sl,e1⟩:=I.base.slot b o eb nb hb (by simp [a0Y])
    obtain ⟨sl2,e2⟩:=up b _ e1 (hfd b hb _ e1)
    exact ⟨sl2,e2⟩
  · obtain ⟨o',e'⟩:=I.base.there b o eb (by simp [a0Y])
    by_cases hb:b∈frs outer
    · obtain ⟨sl,e1⟩:=up b o' e' (hfd b hb o' e')
      exact ⟨_,e1⟩
    · exact ⟨o',k1.stays b o' (toB b o' e' (sV I hst rfl eb hb))⟩
theorem aFX {E':XK} (hE:∀ C H',E' C none H'→E C none H') {pins:List (Addr×Obj)} {σ:St} {H:Hp} {s s':Shared} {e:Value} (I:Inv (cx1 qt P w K mg base N qual scope f cd A outer s₀ H₀ E) pins σ H s)
    (c:tQ P w (cx1 qt P w K mg base N qual scope f cd A outer s₀ H₀ E).stack H s E' e s'):(cx1 qt P w K mg base N qual scope f cd A outer s₀ H₀ E).xe e s':=by
  obtain ⟨x,C,H',B,rfl,fl,hok,cov,auZ,un,os,bare,q⟩:=c
  have hst:(cx1 qt P w K mg base N qual scope f cd A outer s₀ H₀ E).stack=(cx1 qt P w K mg base N qual scope f cd A outer s₀ H₀ E).env :: outer:=rfl
  refine aAG (B:=B) I.ok.frames rfl fl fun h2 k1 k4=>?_
  have hfs:∀ b∈frs outer,b∈frs (cx1 qt P w K mg base N qual scope f cd A outer s₀ H₀ E).stack:=fun b hb=>by
    obtain ⟨env,he,hf⟩:=awS hb
    exact aoD (List.mem_cons_of_mem _ he) hf
  have hfd:∀ b∈frs outer,∀ o,s'.heap.get? b=some o→∀ vs,o.data ≠ .fields vs:=fun b hb o e=>by
    obtain ⟨_,o',ho',hd⟩:=fl.aLA.mem (hfs b hb)
    rw [e] at ho';cases ho'
    exact hd
  refine ⟨x,C,H',B,rfl,k1,hok,fun b o eb nb hb=>?_,fun b o eb hb=>?_,⟨fun b o eb nb hb _=>?_,fun b o eb nb hb _=>?_,fun b o eb nb hx=>?_,fun b o eb hx=>?_,fun b xs z=>un.tups b xs (I.base.tups b xs z),fun b o u z=>un.tG b o u (I.base.tG b o u z),fun b ps z=>?_⟩,os.trans I.os,bare,hE _ _ q⟩
  · exact cov b o (I.base.keep b o eb nb hb (by simp [a0Y])) (I.base.free b o eb nb (by simp [a0Y])) (sV I hst rfl eb hb)
  · obtain ⟨o',e'⟩:=I.base.there b o eb (by simp [a0Y])
    exact auZ b o' e' (sV I hst rfl eb hb)
  · exact k1.stays b o (cov b o (I.base.keep b o eb nb hb (by simp [a0Y])) (I.base.free b o eb nb (by simp [a0Y])) (sV I hst rfl eb hb))
  · obtain ⟨sl,e1⟩:=I.base.slot b o eb nb hb (by simp [a0Y])
    obtain ⟨sl2,e2⟩:=un.slot b _ e1 (I.base.free b o eb nb (by simp [a0Y])) (hfs b hb) (by simp)
    obtain ⟨sl3,e3⟩:=k4 b _ e2 (hfd b hb _ e2)
    exact ⟨sl3,e3⟩
  · obtain ⟨o',e'⟩:=I.base.there b o eb (by simp [a0Y])
    exact un.free b o' e' (I.base.free b o eb nb (by simp [a0Y])) (by simp)
  · obtain ⟨o',e'⟩:=I.base.there b o eb (by simp [a0Y])
    by_cases hb:b∈frs outer
    · obtain ⟨o2,e2⟩:=un.there b o' e' (by simp)
      obtain ⟨sl,e3⟩:=k4 b o2 e2 (hfd b hb o2 e2)
      exact ⟨_,e3⟩
    · obtain ⟨o2,e2⟩:=auZ b o' e' (sV I hst rfl eb hb)
      exact ⟨o2,k1.stays b o2 e2⟩
  · obtain ⟨m1,e1⟩:=I.base.a4U b ps z
    obtain ⟨m2,e2⟩:=un.a4U b _ e1
    exact ⟨m1++m2,by rw [e2,Array.append_assoc]⟩
end
def ab0 (K:Fg) (EX:bM):XK:=fun C _ H'=>∃ c G',C = .ref c∧HR K H' G'∧EX c G'
structure Cat (X:Cx) (EX:aY→bM):Prop where
  ar4:∀ pins σ H s ρ e s',Inv X pins σ H s→SR X.K H ρ σ→tQ X.prog X.w X.stack H s (ab0 X.K (EX ρ)) e s'→X.xe e s'
structure Thr (X:Cx) (EX:aY→bM):Prop where
  made:∀ pins σ H s ρ C e us h',Inv X pins σ H s→SR X.K H ρ σ→Heap.MadeExcOf s.heap h' e (.ref C) us→ab0 X.K (EX ρ) (.ref C) none H→X.xe (.ref e) { s with heap:=h' }
section
variable {qt:Bool} {P:Program} {w:World} {K:Fg} {mg:Str→Option Value} {base:Heap} {N:List Str} {qual:Str} {scope:Scope} {f:Addr} {cd:Value} {A:Around} {outer:List Env} {s₀:Shared} {H₀:Hp} {E:XK} {EX:bM}
theorem ar5 (h:UpX K EX E) {C:Value} {H':Hp} (q:ab0 K EX C none H'):E C none H':=by
  obtain ⟨c,G',rfl,g,q⟩:=q
  exact h c H' G' g q
theorem aXP (h:UpX K EX E):Cat (cx1 qt P w K mg base N qual scope f cd A outer s₀ H₀ E) (fun _=>EX) :=
  ⟨fun pins σ H s ρ e s' I _ c=>aFX (E':=ab0 K EX) (fun C H' q=>ar5 h q) I c⟩
theorem aXQ (h:UpX K EX E):Thr (cx1 qt P w K mg base N qual scope f cd A outer s₀ H₀ E) (fun _=>EX) :=
  ⟨fun pins σ H s ρ C e us h' I _ hm q=>aFW I hm (ar5 h q)⟩
theorem own1:PassesOwn (model P w) (cx1 qt P w K mg base N qual scope f cd A outer s₀ H₀ E).A (cx1 qt P w K mg base N qual scope f cd A outer s₀ H₀ E).env (cx1 qt P w K mg base N qual scope f cd A outer s₀ H₀ E).xe:=PassesOwn.leaving
end
section
variable {X:Cx} {k:Nat} {f C:Addr} {fd:FuncData} {ps:List Str} {sp:zL} {EX:aY→bM} {x:Str} {p pos:Pos} {e:Expr} {es:List Expr} {t:zQ}
def aU (sp:zL) (EX:aY→bM) (t:zQ):dX:=fun ρ G R=>t ρ G fun ds G1=>sp ds G1 R (EX ρ)
theorem awT {pins:List (Addr×Obj)} {σ:St} {H:Hp} {s:Shared} {Q Q':VK} {us:List Value} {vs:List V} {E:XK} (F:dH qt X.prog X.w X.K X.mg X.base (tQ X.prog X.w) k f fd ps (gB X.K sp)) (hr:oO qt k X.A) (hb:Binds X.K fd ps [])
    (hx:∀ e s',tQ X.prog X.w X.stack H s E e s'→X.xe e s')
    (I:Inv X pins σ H s) (r:Vals vs us) (h:gB X.K sp vs H Q E) (hQ:∀ v H',Ts H H'→Q v H'→Q' v H'):wpAny (model X.prog X.w) X.A (call (.ref f) us) (EP X pins σ Q') X.xe s:=by
  have hl:(us++[]).length=ps.length:=by rw [List.append_nil,← r.length];exact F.len _ _ _ _ h
  refine wpAny_call (codeAny_mono (F.run X.A X.stack s H ⟨us,[]⟩ (us++[]) vs Q E hr I.env0 (hb s us I.kIn hl) (by rw [List.append_nil];exact r) h) fun r s' hq=>?_)
  cases r with
  | error e=>exact hx e s' hq
  | ok fl =>
    cases fl with
    | ret u =>
      obtain ⟨v,H',os,bare,un,hok,r,q⟩:=hq
      exact ⟨v,H',I.call' (ch:=[]) os un hok bare (fun b z=>absurd z (by simp)),r,hQ v H' ⟨un.tups,un.tG⟩ q⟩
    | next=>exact False.elim hq
    | brk=>exact False.elim hq
    | cont=>exact False.elim hq
theorem aFY (F:dH qt X.prog X.w X.K X.mg X.base (tQ X.prog X.w) k f fd ps (gB X.K sp)) (hr:oO qt k X.A) (hg:Gl X x) (hm:X.mg x=some (.ref f)) (hk:PySem.W.keepIn X.K (.ref f)=true) (hb:Binds X.K fd ps []) (hx:Cat X EX)
    (ha:PA3 X (e :: es) t) (hdb:(x == ("__debug__" : Str))=false:=by decide) (he:starEach (e :: es) X.env=(false,eval e X.env) :: starEach es X.env:=by rfl) (hpl:(backTo pos (starEach es X.env)).any (·.1)=false:=by rfl) :
    gG X (.Call (.Name x p) (e :: es) [] pos) (aU sp EX t):=by
  intro pins s σ H Q I h
  obtain ⟨ρ,G,R,sr,g,q,kk⟩:=h
  refine wpAny_Call_Name_kw (yU I hg hm ?_ hdb)
  refine PySem.W.callWith_K (h₀:=X.base) I.ok.mod.kin hk (kY (ha pos pins s σ H (fun vs H1=>Ts H H1∧∃ ds G1,iG X.K H1 ds vs∧HR X.K H1 G1∧sp ds G1 R (EX ρ)) I ⟨ρ,G,_,sr,g,q,fun vs H1 ds G1 t1 r1 g1 q1=>⟨t1,ds,G1,r1,g1,q1⟩⟩) fun us s1 ⟨vs,H1,I1,r,t1,ds,G1,r1,g1,q1⟩=>⟨I1.kIn,?_⟩) he hpl
  refine awT (E:=ab0 X.K (EX ρ)) F hr hb (fun e s' c=>hx.ar4 pins σ H1 s1 ρ e s' I1 (sr.mono t1) c) I1 r (Q:=fun v H'=>∃ d G',RD X.K H' d v∧HR X.K H' G'∧R d G') ⟨ds,G1,R,EX ρ,r1,g1,q1,fun v H' d G' r2 g2 q2=>⟨d,G',r2,g2,q2⟩,fun C H' G' g' q'=>⟨C,G',rfl,g',q'⟩⟩ fun v H' t2 ⟨d,G',r2,g2,q2⟩=>kk v H' d G' (t1.trans t2) r2 g2 q2
theorem aN5 {qt:Bool} {P:Program} {w:World} {K:Fg} {mg:Str→Option Value} {base:Heap} {x qual:Str} {st:Stmt} {f:Addr} {fd:FuncData} {N ps:List Str} {k:Nat} {tb:bM→cI} (F:Fun K x qual st f fd) (S:bI N ps (aB st))
    (hbody:∀ (cdv:Value) (A:Around) (outer:List Env) (s:Shared) (H:Hp) (E:XK) (EX:bM),oO qt k (A.deeper (envOfC qual (aB st) s.heap.objs.size f cdv))→UpX K EX E →
      aeP (cx1 qt P w K mg base N qual (aB st) f cdv A outer s H E) (aG st) (tb EX)):dH qt P w K mg base (tQ P w) (k+1) f fd ps (gB K (aXN N.length ps.length tb)):=by
  obtain ⟨oc,od,dV,kV,doc,pm,an,cdv,ct,osl,rfl,lk,hcd⟩:=F.ex
  have hpl:ps.length≤N.length:=by have:=congrArg List.length S.pre;rw [List.length_take] at this;omega
  refine aJZ lk hcd S (fun vs H Q E h=>?_) fun A outer s H vs Q E hr hsp=>?_
  · obtain ⟨ds,G,R,EX,r,g,⟨hl,q⟩,_⟩:=h
    rw [← r.length,hl]
  · obtain ⟨ds,G,R,EX,r,g,⟨hl,q⟩,kk,hE⟩:=hsp
    refine ⟨_,hbody cdv A outer s H E EX hr hE,aoB N.length ds,G,_,?_,g,q,⟨fun ρ G' σ' H' s1 g1 q1=>kk .non H' .non G' .non g1 q1,fun d G' v H' r1 g1 q1=>kk v H' d G' r1 g1 q1,fun _ _ _ _ _ _ z=>z.elim,fun _ _ _ _ _ _ z=>z.elim⟩⟩
    unfold aoB start
    rw [r.length]
    exact SR.entry r
end
section
variable {X:Cx} {C:Addr} {bmB bmN:List Value} {B Bn newId nid initId inN:String} {EX:aY→bM} {x:Str} {np cpos pos:Pos} {e:Expr} {es:List Expr} {t:zQ}
theorem ai9 {K:Fg} {h:Heap} (XK:K.In h) (q:PySem.W.excIn K C bmB newId=true):∃ bm N nm q bs hdct sn sub ab col dd k0 k1 k2 k3 k5 mN,h.get? C=some (excClassObj nm q C N bs bm hdct sn sub ab col dd k0 k1 k2 k3 k5 newId)∧h.Ns N mN∧mN "__init__" = none∧OwnTail h bmB bm:=by
  unfold PySem.W.excIn at q
  split at q
  · rename_i dd cd sl ho
    split at q
    · rename_i C' bm k0 k1 k2 k3 n k5 hm hs
      simp only [Bool.and_eq_true,beq_iff_eq,Bool.not_eq_true'] at q
      obtain ⟨⟨⟨⟨⟨rfl,rfl⟩,hdel⟩,ht⟩,hok⟩,hni⟩:=q
      obtain ⟨nm,bs,mro,ns,qn,hd,sn,sub,ab,col,del⟩:=cd
      dsimp only at hm hdel hok hni
      subst hm hdel
      have hsl:sl=#[k0,k1,k2,k3,some (.builtin n),k5]:=by
        obtain ⟨l⟩:=sl
        simp only at hs
        rw [hs]
      subst hsl
      exact ⟨bm,ns,nm,qn,bs,hd,sn,sub,ab,col,dd,k0,k1,k2,k3,k5,_,XK _ _ ho,.of_isNs (PySem.W.isNs_of_in XK hok),PySem.W.nsMap_none_of_in XK hok hni,PySem.W.tail_of_in XK ht⟩
    · cases q
  · cases q
def vZ (EX:aY→bM) (C:Addr) (t:zQ):cI:=fun _ ρ G=>t ρ G fun ds G1=>ds.length≤sizeLine∧EX ρ C G1
theorem aFZ (hc:X.calm=true) (Fn:ExcBaseFacts Bn newId inN bmN) (hBn:bmB.contains (.type Bn)=true) (FB:ExcBaseFacts B nid initId bmB) (hg:Gl X x) (hm:X.mg x=some (.ref C)) (hq:PySem.W.excIn X.K C bmB newId=true) (hT:Thr X EX)
    (ha:PA3 X (e :: es) t) (hd:(x == ("__debug__" : Str))=false:=by decide)
    (he:starEach (e :: es) X.env=(false,eval e X.env) :: starEach es X.env:=by rfl) (hplain:(backTo cpos (starEach es X.env)).any (·.1)=false:=by rfl) :
    PS3 X (.Raise (some (.Call (.Name x np) (e :: es) [] cpos)) none pos) (vZ EX C t):=by
  intro pins s σ H F I h
  obtain ⟨ρ,G,E3,sr,g,q,dd⟩:=h
  obtain ⟨tl,N,nm,q',bs,hdct,sn,sub,ab,col,dd',k0,k1,k2,k3,k5,mN,hC,hN,hni,T⟩:=ai9 I.mod.kin hq
  refine wpAny_Raise_call_subU (C:=C) (nm:=nm) (q:=q') (N:=N) (bs:=bs) (bm:=tl) (hdct:=hdct) (sn:=sn) (sub:=sub) (ab:=ab) (col:=col) (dd:=dd') (k0:=k0) (k1:=k1) (k2:=k2) (k3:=k3) (k5:=k5)
    Fn hBn FB (mN:=mN) (T.hasType FB.hasBase) (I.ok.hd hc) (by rw [he];show (false || (backTo cpos (starEach es X.env)).any (·.1))=false;rw [hplain];rfl) hni (yU I hg hm ⟨rfl,?_⟩ hd)
  have hA:=ha cpos pins s σ H (fun vs H1=>Ts H H1∧∃ ds G1,iG X.K H1 ds vs∧HR X.K H1 G1∧ds.length≤sizeLine∧EX ρ C G1) I ⟨ρ,G,_,sr,g,q,fun vs H1 ds G1 t1 r1 g1 q1=>⟨t1,ds,G1,r1,g1,q1.1,q1.2⟩⟩
  rw [he] at hA ⊢
  refine Calls.evalArgs_plain (kY hA fun us s2 ⟨vs,H2,I2,r2,t1,ds,G1,r1,g1,hl,q1⟩=>?_)
  exact ⟨rfl,by rw [← r2.length,← r1.length];exact hl,I2.bk _ _ hC,hN.keeps I2.bk,T.keeps I2.bk,fun h' e' hm'=>hT.made pins σ H2 s2 ρ C e' us h' I2 (sr.mono t1) hm' ⟨C,G1,rfl,g1,q1⟩⟩
end
end L2
namespace L2
open PySem PySem.Spec PyProof.Rows
def a4Z:aY→Nat→aY
  | [],_=>[]
  | _ :: r,0=>none :: r
  | x :: r,n+1=>x :: a4Z r n
def aeR:St→Nat→St
  | [],_=>[]
  | _ :: r,0=>none :: r
  | x :: r,n+1=>x :: aeR r n
theorem SR.clr {K:Fg} {H:Hp}:∀ {ρ:aY} {σ:St} (i:Nat),SR K H ρ σ→SR K H (a4Z ρ i) (aeR σ i)
  | _,_,_,.nil => .nil
  | _,_,0,.none r => .none r
  | _,_,0,.some _ r => .none r
  | _,_,i+1,.none r => .none (SR.clr i r)
  | _,_,i+1,.some h r => .some h (SR.clr i r)
theorem ar6:∀ (σ:St) (i:Nat),(aeR σ i).length=σ.length
  | [],_=>rfl
  | _ :: _,0=>rfl
  | _ :: r,i+1=>congrArg (·+1) (ar6 r i)
theorem ar7:∀ (σ:St) (i j:Nat) (v:V),(aeR σ i)[j]?=some (some v)→j≠i∧σ[j]?=some (some v)
  | [],_,_,_,h=>by simp [aeR] at h
  | _ :: _,0,0,_,h=>by simp [aeR] at h
  | _ :: _,0,j+1,_,h=>⟨by omega,by simpa [aeR] using h⟩
  | _ :: _,i+1,0,_,h=>⟨by omega,by simpa [aeR] using h⟩
  | _ :: r,i+1,j+1,v,h=>by
    obtain ⟨a,b⟩:=ar7 r i j v (by simpa [aeR] using h)
    exact ⟨by omega,by simpa using b⟩
section
variable {X:Cx}
def xeT (X:Cx) (EX:aY→bM):Value→Shared→Prop:=fun e s'=>∃ pins σ H s ρ,Inv X pins σ H s∧SR X.K H ρ σ∧tQ X.prog X.w X.stack H s (ab0 X.K (EX ρ)) e s'
abbrev aG0 (X:Cx) (pn:List (Addr×Obj)) (EX:aY→bM):Cx:={ X with pn:=X.pn++pn,xe:=xeT { X with pn:=X.pn++pn } EX }
abbrev az2 (X:Cx) (x:Addr):Cx:={ X with A:=X.A.mark (some (.ref x)),calm:=false,xe:=fun _ _=>False }
theorem aT3 (ok:X.Ok) (pn:List (Addr×Obj)) (E:Value→Shared→Prop):({ X with pn:=pn,xe:=E }:Cx).Ok :=
  ⟨ok.mod,ok.kind,ok.glob,ok.blt,ok.above,ok.inj,ok.has,ok.cab,ok.hd,ok.frames,ok.stk,ok.exf,ok.bs,ok.bsz,ok.alE,ok.anT,ok.a4V,ok.frf⟩
theorem aG1 {pins:List (Addr×Obj)} {σ:St} {H:Hp} {s:Shared} (I:Inv X pins σ H s) (E:Value→Shared→Prop):Inv ({ X with pn:=X.pn++pins,xe:=E }:Cx) [] σ H s :=
  ⟨aT3 I.ok _ _,I.os,I.bare,I.base,I.loc,I.cell,I.free,I.wL,fun p hp=>I.pin p (by simpa using hp),I.hok,I.len,I.hnd,I.tup⟩
theorem a3N {pins acM:List (Addr×Obj)} {σ:St} {H:Hp} {s:Shared} {E:Value→Shared→Prop} (I:Inv ({ X with pn:=X.pn++pins,xe:=E }:Cx) acM σ H s):Inv X pins σ H s :=
  ⟨⟨I.ok.mod,I.ok.kind,I.ok.glob,I.ok.blt,I.ok.above,I.ok.inj,I.ok.has,I.ok.cab,I.ok.hd,I.ok.frames,I.ok.stk,I.ok.exf,I.ok.bs,I.ok.bsz,I.ok.alE,I.ok.anT,I.ok.a4V,I.ok.frf⟩,I.os,I.bare,I.base,I.loc,I.cell,I.free,I.wL,fun p hp=>I.pin p (List.mem_append_left _ hp),I.hok,I.len,I.hnd,I.tup⟩
theorem awU {pins:List (Addr×Obj)} {σ:St} {H:Hp} {s:Shared} (I:Inv X pins σ H s) (x:Addr) (q:Hnd (X.A.mark (some (.ref x))) H):Inv (az2 X x) pins σ H s :=
  ⟨⟨I.ok.mod,I.ok.kind,I.ok.glob,I.ok.blt,I.ok.above,I.ok.inj,I.ok.has,I.ok.cab,(fun z=>nomatch z),I.ok.frames,I.ok.stk,I.ok.exf,I.ok.bs,I.ok.bsz,I.ok.alE,I.ok.anT,I.ok.a4V,I.ok.frf⟩,I.os,I.bare,I.base,I.loc,I.cell,I.free,I.wL,I.pin,I.hok,I.len,q,I.tup⟩
theorem aaA {pins:List (Addr×Obj)} {σ:St} {H:Hp} {s:Shared} {x:Addr} (ok:X.Ok) (hn:X.A.handled=none) (I:Inv (az2 X x) pins σ H s):Inv X pins σ H s :=
  ⟨ok,I.os,I.bare,I.base,I.loc,I.cell,I.free,I.wL,I.pin,I.hok,I.len,.inl hn,I.tup⟩
theorem aXR (pn:List (Addr×Obj)) (EX:aY→bM):Cat (aG0 X pn EX) EX:=⟨fun pins σ H s ρ e s' I sr c =>
  ⟨pins,σ,H,s,ρ,⟨⟨I.ok.mod,I.ok.kind,I.ok.glob,I.ok.blt,I.ok.above,I.ok.inj,I.ok.has,I.ok.cab,I.ok.hd,I.ok.frames,I.ok.stk,I.ok.exf,I.ok.bs,I.ok.bsz,I.ok.alE,I.ok.anT,I.ok.a4V,I.ok.frf⟩,I.os,I.bare,I.base,I.loc,I.cell,I.free,I.wL,I.pin,I.hok,I.len,I.hnd,I.tup⟩,sr,c⟩⟩
theorem aN6 {P:Program} {w:World} {l:List Env} {H H':Hp} {s s':Shared} {h2 B:Heap} {x C:Addr} (fl:Fly B l x (.ref C) s'.heap) (cov:∀ b o,s.heap.get? b=some o→H b=none→b ∉ frs l→B.get? b=some o)
    (auZ:∀ b o,s.heap.get? b=some o→b ∉ frs l→∃ o',B.get? b=some o') (un:Un (frs l) [] H H' s.heap s'.heap) (st:B.StaysIn h2) (up:s'.heap.UpToSlots h2):Un (frs l) [] H H' s.heap h2:=by
  have hfd:∀ b∈frs l,∀ o,s'.heap.get? b=some o→∀ vs,o.data ≠ .fields vs:=fun b hb o e=>by
    obtain ⟨_,o',ho',hd⟩:=fl.aLA.mem hb
    rw [e] at ho';cases ho'
    exact hd
  refine ⟨fun b o eb nb hb _=>st b o (cov b o eb nb hb),fun b o eb nb hb hx=>?_,un.free,fun b o eb hx=>?_,un.tups,un.tG,un.a4U⟩
  · obtain ⟨sl,e1⟩:=un.slot b o eb nb hb hx
    obtain ⟨sl2,e2⟩:=up b _ e1 (hfd b hb _ e1)
    exact ⟨sl2,e2⟩
  · by_cases hb:b∈frs l
    · obtain ⟨o2,e2⟩:=un.there b o eb hx
      obtain ⟨sl,e3⟩:=up b o2 e2 (hfd b hb o2 e2)
      exact ⟨_,e3⟩
    · obtain ⟨o2,e2⟩:=auZ b o eb hb
      exact ⟨o2,st b o2 e2⟩
theorem aiA {M:Model} {A:Around} {E:Value→Shared→Prop} {pins:List (Addr×Obj)} {σ:St} {H:Hp} {s:Shared} {i:Nat} {n:Str} {pos:Pos} {Q:Unit→Shared→Prop} (I:Inv X pins σ H s) (hN:X.N.Nodup) (hi:X.N[i]?=some n) (hl:X.env.kindOf n=some .local)
    (h:∀ s',Inv X pins (aeR σ i) H s'→Q () s'):wpAny M A (do bindName X.env n .none;unbindBehindTheSuite X.env n pos) Q E s:=by
  obtain ⟨m,hn,hlo⟩:=id I.loc
  have cne:=I.cne
  refine wpAny_nameGoes_keeps hl hn (by rw [I.ok.kind];rfl) fun h' v hn' hs=>?_
  obtain ⟨oL,_,_,hoL,_⟩:=id hn
  refine h _ ⟨I.ok,I.os,I.bare,⟨fun b o e n hb hx=>?_,fun b o e n hb hx=>?_,I.base.free,fun b o e hx=>?_,I.base.tups,I.base.tG,I.base.a4U⟩,⟨_,hn',fun j y v' e1 e2 e3=>?_⟩,fun y c e=>?_,I.free,I.wL,fun p hp=>?_,fun b ob e=>?_,(ar6 σ i).trans I.len,I.hnd,I.tup⟩
  · exact (hs.2 b (Nat.ne_of_lt (Nat.lt_of_lt_of_le (Heap.lt_size e) I.ok.above))).trans (I.base.keep b o e n hb hx)
  · obtain ⟨sl,e1⟩:=I.base.slot b o e n hb hx
    exact ⟨sl,(hs.2 b (Nat.ne_of_lt (Nat.lt_of_lt_of_le (Heap.lt_size e) I.ok.above))).trans e1⟩
  · obtain ⟨o',e1⟩:=I.base.there b o e hx
    exact ⟨o',(hs.2 b (Nat.ne_of_lt (Nat.lt_of_lt_of_le (Heap.lt_size e) I.ok.above))).trans e1⟩
  · obtain ⟨hj,e2'⟩:=ar7 σ i j v' e2
    obtain ⟨u',r',q⟩:=hlo j y v' e1 e2' e3
    refine ⟨u',r',?_⟩
    rcases q with ⟨k,e⟩ | ⟨k,c,e,z⟩
    · refine .inl ⟨k,?_⟩
      have:y≠n:=fun e=>hj (aiH hN e1 (e ▸ hi))
      simp [this,e]
    · exact .inr ⟨k,c,e,z.sameBut hs (cne y c e)⟩
  · obtain ⟨w',z⟩:=I.cell y c e
    exact ⟨w',z.sameBut hs (cne y c e)⟩
  · obtain ⟨e,n,ne,nf,d⟩:=I.pin p hp
    exact ⟨(hs.2 p.1 ne).trans e,n,ne,nf,d⟩
  · refine (I.hok b ob e).stay (fun c w' hc q=>(hs.2 c ?_).trans q) (fun _ q=>q) fun _ _ q=>q
    rintro rfl
    have hfree:=I.free
    rcases hc with z | hc
    · rw [z,e] at hfree;cases hfree
    · rw [hfree] at hc;cases hc
theorem aXS {M:Model} {A:Around} {E:Value→Shared→Prop} {K:Fg} {s:Shared} {x C Dc:Addr} {oe:Obj} {b:Bool} {Q:Bool→Shared→Prop} (KX:K.In s.heap) (he:s.heap.get? x=some oe) (hcls:oe.cls = .ref C)
    (hc:(PySem.W.clsIn K Dc).isSome=true) (ht:PySem.W.typeIn K (.ref Dc)=some (.type "type")) (hb:PySem.W.subIn K (.ref Dc) (.type "BaseException")=some true) (hs:PySem.W.subIn K (.ref C) (.ref Dc)=some b) (h:Q b s):wpAny M A (excMatches (.ref x) (.ref Dc)) Q E s:=by
  have l1:PySem.W.Looks M s.heap (typeOf (.ref Dc)) (.type "type"):=PySem.W.looks_typeIn KX ht
  have l2:PySem.W.Looks M s.heap (isSubtype (.ref Dc) (.type "BaseException")) true:=PySem.W.looks_subIn KX hb
  have l3:PySem.W.Looks M s.heap (isSubtype (.ref C) (.ref Dc)) b:=PySem.W.looks_subIn KX hs
  have l4:PySem.W.Looks M s.heap (typeOf (.ref x)) (.ref C):=by
    have z:=(PySem.W.Looks.ld (M:=M) (part:=none) he).andThen (f:=fun o=>pure o.cls) (b := .ref C) (by rw [hcls];exact .now)
    exact z
  have l0:PySem.W.Looks M s.heap (isSubtype (.type "type") (.type "tuple")) false := .of_pure tc_notTuple
  have lt:PySem.W.Looks M s.heap (isType (.ref Dc)) true:=by
    intro A' Q' E' s' k q
    cases eK:PySem.W.clsIn K Dc with
    | none=>rw [eK] at hc;cases hc
    | some cd =>
      unfold PySem.W.clsIn at eK
      split at eK
      · rename_i ho
        unfold isType loadHead
        exact wpAny_bind (wpAny_loadPart (k _ _ (KX _ _ ho)) (wpAny_pure q))
      · cases eK
  unfold excMatches isInstance isExcClass
  repeat (first | with_reducible refine PySem.W.Looks.here l0 ?_ | with_reducible refine PySem.W.Looks.here l1 ?_ | with_reducible refine PySem.W.Looks.here l2 ?_ | with_reducible refine PySem.W.Looks.here l3 ?_ | with_reducible refine PySem.W.Looks.here l4 ?_ | with_reducible refine PySem.W.Looks.here lt ?_ | wp_step)
  cases b <;> (wp_walk;exact h)
def amP (K:Fg) (Dc:Addr) (i:Nat) (tb:(aY→bM)→cI) (th:cI):cI:=fun F ρ G =>
  tb (fun ρ1 C G1=>PySem.W.subIn K (.ref C) (.ref Dc)=some true∧∀ x,G1 x=none→th { nx:=fun ρ2 G2=>F.nx (a4Z ρ2 i) G2,rt:=F.rt,bk:=fun ρ2 G2=>F.bk (a4Z ρ2 i) G2,ct:=fun ρ2 G2=>F.ct (a4Z ρ2 i) G2 } (a3M ρ1 i (.ref x)) (aQ G1 x (.exn C))) F ρ G
theorem aBC {pins:List (Addr×Obj)} {EX:aY→bM} {F:Ends} {f:Flow} {s:Shared} (h:SP (aG0 X pins EX) [] F f s):SP X pins F f s:=by
  cases f with
  | next=>obtain ⟨σ',H',I,q⟩:=h;exact ⟨σ',H',a3N I,q⟩
  | brk=>obtain ⟨σ',H',I,q⟩:=h;exact ⟨σ',H',a3N I,q⟩
  | cont=>obtain ⟨σ',H',I,q⟩:=h;exact ⟨σ',H',a3N I,q⟩
  | ret u=>obtain ⟨v,σ',H',I,r,q⟩:=h;exact ⟨v,σ',H',a3N I,r,q⟩
theorem ar8 {P:Program} {w:World} {H:Hp} {B:Heap} {x:Addr} (hok:HOk P w H B) (n:B.get? x=none):H x=none:=by
  cases e0:H x with
  | none=>rfl
  | some o =>
    have lt:=(hok x o e0)
    obtain ⟨o',ho'⟩:∃ o',B.get? x=some o':=by
      cases o with
      | lst xs=>obtain ⟨_,_,_,_,e⟩:=lt;exact ⟨_,e⟩
      | tup xs=>obtain ⟨_,_,_,o,e,_⟩:=lt;exact ⟨_,e⟩
      | dK kvs=>obtain ⟨_,_,_,_,o,_,_,e,_⟩:=lt;exact ⟨_,e⟩
      | dT kvs=>obtain ⟨_,_,_,_,o,_,_,e,_⟩:=lt;exact ⟨_,e⟩
      | set S n=>obtain ⟨o,_,_,_,e,_⟩:=lt;exact ⟨_,e⟩
      | ins C dx fs=>obtain ⟨_,_,_,e,_⟩:=lt;exact ⟨_,e⟩
      | own y=>obtain ⟨_,e⟩:=lt;exact ⟨_,e⟩
      | xd fs=>obtain ⟨_,⟨_,_,_,e,_⟩,_⟩:=lt;exact ⟨_,e⟩
      | rng lo hi=>obtain ⟨_,_,_,e⟩:=lt;exact ⟨_,e⟩
      | frz ob u=>obtain ⟨e,_⟩:=lt;exact ⟨_,e⟩
      | tbl ps=>exact ⟨_,(show B.get? x=some _ from lt)⟩
      | met f y=>exact ⟨_,(show B.get? x=some _ from lt)⟩
      | ext φ=>obtain ⟨_,⟨_,e⟩,_⟩:=lt;exact ⟨_,e⟩
    rw [n] at ho';cases ho'
theorem aT4 {body:List Stmt} {b₀:Stmt} {suite:List Stmt} {n cx:Str} {Dc:Addr} {i:Nat} {tb:(aY→bM)→cI} {th:cI} {cp hpos pos:Pos}
    (hcm:X.calm=true) (hN:X.N.Nodup) (hi:X.N[i]?=some n) (hl:X.env.kindOf n=some .local) (hst:X.stack=X.env :: X.outer) (hfn:X.env.frame=some X.env.locals)
    (hg:Gl X cx) (hm:X.mg cx=some (.ref Dc)) (hc:(PySem.W.clsIn X.K Dc).isSome=true) (ht:PySem.W.typeIn X.K (.ref Dc)=some (.type "type")) (hbx:PySem.W.subIn X.K (.ref Dc) (.type "BaseException")=some true)
    (hb:∀ pn EX,aeP (aG0 X pn EX) body (tb EX)) (hh:∀ x,aeP (az2 X x) (b₀ :: suite) th) (hd:(cx == ("__debug__" : Str))=false:=by decide) :
    PS3 X (.Try body [.ExceptHandler (some (.Name cx cp)) (some n) (b₀ :: suite) hpos] [] [] pos) (amP X.K Dc i tb th):=by
  intro pins s σ H F I h
  obtain ⟨ρ,G,E3,sr,g,q,d⟩:=h
  refine wpAny_Try_except (wpAny_mono (hb pins _ [] s σ H F (aG1 I _) ⟨ρ,G,E3,sr,g,q,d⟩) (fun f s1 q1=>?_) fun e s1 q1=>?_)
  · have q2:=aBC q1
    cases f with
    | next=>exact wpAny_execs_nil q2
    | brk=>exact q2
    | cont=>exact q2
    | ret u=>exact q2
  · obtain ⟨acM,σ1,H1,s0,ρ1,I1,sr1,x,C,H',B,rfl,fl,hok,cov,auZ,un,os,bare,c,G',e2,g',hsub,hth⟩:=q1
    cases e2
    have J1:Inv X pins σ1 H1 s0:=a3N I1
    have hn:X.A.handled=none:=I.ok.hd hcm
    have hfr:X.A.frames=some (X.env :: X.outer):=by rw [← hst];exact I.ok.frames
    have fl':Fly B (X.env :: X.outer) x (.ref C) s1.heap:=by rw [← hst];exact fl
    refine awI (B:=B) hfr hfn fl' fun h4 aT5 sm4=>?_
    refine ai6 aT5 fun h5 fl5 sm5=>?_
    have hxB:B.get? x=none:=fl.new
    have nxH:H' x=none:=ar8 hok hxB
    have track:∀ (h6:Heap) (oe:Obj) (ws:Array Value),Fly B (X.env :: X.outer) x (.ref C) h6→s1.heap.UpToSlots h6→h6.get? x=some oe→oe.cls = .ref C→oe.data = .fields ws →
        Inv X pins σ1 (upd H' x (.frz oe (.ext (aaY C x)))) { s1 with heap:=h6 }∧Ts H1 (upd H' x (.frz oe (.ext (aaY C x)))):=by
      intro h6 oe ws fl6 sm az3 aBD amQ
      have un6:=aN6 (P:=X.prog) (w:=X.w) fl cov auZ un fl6.stays sm
      have nx0:s0.heap.get? x=none:=by
        cases e0:s0.heap.get? x with
        | none=>rfl
        | some o =>
          by_cases hx:x∈frs X.stack
          · obtain ⟨_,o',ho',hd'⟩:=fl6.aLA.mem (by rw [← hst];exact hx)
            rw [az3] at ho';cases ho'
            exact absurd amQ (hd' ws)
          · obtain ⟨o',ho'⟩:=auZ x o e0 hx
            rw [hxB] at ho';cases ho'
      have sn:Same H' (upd H' x (.frz oe (.ext (aaY C x)))):=cU nxH
      have nst:∀ b o,s0.heap.get? b=some o→b≠x:=fun b o e z=>by subst z;rw [nx0] at e;cases e
      have un7:Un (frs X.stack) [] H1 (upd H' x (.frz oe (.ext (aaY C x)))) s0.heap h6:=⟨un6.keep,un6.slot,fun b o e n hx=>by rw [dF (nst b o e)];exact un6.free b o e n hx,un6.there,fun b xs z=>sn _ _ (un6.tups b xs z),fun b o u z=>sn _ _ (un6.tG b o u z),fun b ps z=>by
        obtain ⟨m,e⟩:=un6.a4U b ps z
        exact ⟨m,sn _ _ e⟩⟩
      have aXW:HOk X.prog X.w (upd H' x (.frz oe (.ext (aaY C x)))) h6:=fun b o e=>by
        by_cases hb:b=x
        · subst hb
          rw [aV] at e;cases e
          refine ⟨az3,⟨oe,ws,az3,aBD,amQ⟩,⟨oe,az3⟩,fun h1 h2 ⟨o1,w1,e1,e2,e3⟩ k=>⟨o1,w1,k _ e1,e2,e3⟩⟩
        · rw [dF hb] at e
          exact ((hok.kept fl6.stays) b o e).stay (fun _ _ _ z=>z) (fun c z=>sn _ _ z) fun c xs z=>sn _ _ z
      exact ⟨J1.call' (ch:=[]) (s':={ s1 with heap:=h6 }) os un7 aXW bare (fun b z=>absurd z (by simp)),un7.tups,un7.tG⟩
    obtain ⟨oe,ws5,hoe,hoec,hoed,aXX⟩:=fl5.fld
    obtain ⟨J5,_⟩:=track h5 oe ws5 fl5 (sm4.trans sm5) hoe hoec hoed
    refine wpAny_handleBy_cons (codeAny_handlers_test ?_) (by intro q;cases q)
    refine yU (X:=az2 X x) (awU J5 x (.inr ⟨x,oe,_,ws5,rfl,aV,hoed,aXX⟩)) hg hm ?_ hd
    refine aXS (K:=X.K) J5.kIn hoe hoec hc ht hbx hsub ?_
    refine codeAny_handlers_suite_as ?_
    refine ai6 fl5 fun h6 fl6 sm6=>?_
    obtain ⟨oe6,ws,az3,aBD,amQ,aK6⟩:=fl6.fld
    obtain ⟨J7,tt⟩:=track h6 oe6 ws fl6 ((sm4.trans sm5).trans sm6) az3 aBD amQ
    have gx:G' x=none:=tH (K:=X.K) g' nxH (a6X (X:=X) J7)
    refine aiI (X:=az2 X x) (awU J7 x (.inr ⟨x,oe6,_,ws,rfl,aV,amQ,aK6⟩)) hN hi (.inl hl) (v := .ref x) (u := .ref x) rfl (fun s8 J8=>?_) (.inr hl)
    have q8:=hth x gx
    refine wpAny_mono (hh x pins s8 _ _ { nx:=fun σ2 H2=>F.nx (aeR σ2 i) H2,rt:=F.rt,bk:=fun σ2 H2=>F.bk (aeR σ2 i) H2,ct:=fun σ2 H2=>F.ct (aeR σ2 i) H2 } J8
      ⟨a3M ρ1 i (.ref x),aQ G' x (.exn C),_,(sr1.mono tt).set (.ref x) i,g'.put (u := .exn C) nxH ⟨oe6,ws,aV,amQ,aK6⟩,q8,⟨fun ρ2 G2 σ2 H2 s2 g2 z=>d.nx _ G2 _ H2 (s2.clr i) g2 z,d.rt,fun ρ2 G2 σ2 H2 s2 g2 z=>d.bk _ G2 _ H2 (s2.clr i) g2 z,fun ρ2 G2 σ2 H2 s2 g2 z=>d.ct _ G2 _ H2 (s2.clr i) g2 z⟩⟩) (fun f s9 q9=>?_) fun _ _ z=>z.elim
    cases f with
    | next=>obtain ⟨σ2,H2,I2,z⟩:=q9;exact aiA (aaA J7.ok hn I2) hN hi hl fun s10 I10=>⟨_,H2,I10,z⟩
    | brk=>obtain ⟨σ2,H2,I2,z⟩:=q9;exact aiA (aaA J7.ok hn I2) hN hi hl fun s10 I10=>⟨_,H2,I10,z⟩
    | cont=>obtain ⟨σ2,H2,I2,z⟩:=q9;exact aiA (aaA J7.ok hn I2) hN hi hl fun s10 I10=>⟨_,H2,I10,z⟩
    | ret u=>obtain ⟨v,σ2,H2,I2,r2,z⟩:=q9;exact aiA (aaA J7.ok hn I2) hN hi hl fun s10 I10=>⟨v,_,H2,I10,r2,z⟩
end
end L2
namespace L2
open PySem PySem.Spec PyProof.Rows
section
variable {X:Cx} {a b c:Expr} {ta tb tc:dX} {pos:Pos}
def awV (t:dX):dX:=fun ρ G R=>t ρ G fun x G1=>match x with
  | .int i=>R (.int (-i)) G1
  | _=>False
theorem aT6 (ha:gG X a ta):gG X (.UnaryOp .USub a pos) (awV ta):=PE.imp (aRP aM5 ha) fun σ H Q h=>by
  obtain ⟨ρ,G,R,s,g,t,k⟩:=h
  refine ⟨ρ,G,_,s,g,t,fun v H1 x G1 t1 r g1 q=>?_⟩
  cases r with
  | int i=>exact ⟨i,rfl,k _ H1 _ G1 t1 (.int _) g1 q⟩
  | _=>exact False.elim q
def aO:Nat→D→Bool
  | 0,.tup _=>false
  | n+1,.tup xs=>xs.all (aO n)
  | _,.ref _=>false
  | _,.ty _=>false
  | _,_=>true
mutual
def eqP:D→D→Bool
  | .non,.non=>true
  | .bl a,.bl b=>a == b
  | .bl a,.int b=>(if a then 1 else 0) == b
  | .int a,.bl b=>a == (if b then 1 else 0)
  | .int a,.int b=>a == b
  | .str a,.str b=>a == b
  | .tup xs,.tup ys=>rN xs ys
  | _,_=>false
def rN:List D→List D→Bool
  | [],[]=>true
  | x :: xs,y :: ys=>eqP x y&&rN xs ys
  | _,_=>false
end
def a5A (xs ys:List D) (j:Nat):Bool:=match xs[j]?,ys[j]? with
  | some a,some b=>eqP a b
  | _,_=>false
theorem aiS (n:Nat) (e:Nat→Bool):(List.range (n+1)).all e=(e 0&&(List.range n).all fun j=>e (j+1)):=by
  rw [List.range_succ_eq_map,List.all_cons,List.all_map];rfl
theorem uV:∀ (xs ys:List D),rN xs ys=((List.range (min xs.length ys.length)).all (a5A xs ys)&&xs.length == ys.length)
  | [],[]=>rfl
  | [],y :: ys=>by simp [rN]
  | x :: xs,[]=>by simp [rN]
  | x :: xs,y :: ys=>by
    have ih:=uV xs ys
    have e:min (x :: xs).length (y :: ys).length=min xs.length ys.length+1:=by simp only [List.length_cons];omega
    rw [rN,ih,e,aiS]
    have e0:a5A (x :: xs) (y :: ys) 0=eqP x y:=rfl
    have e1:(fun j=>a5A (x :: xs) (y :: ys) (j+1))=a5A xs ys:=by
      funext j
      simp [a5A]
    have e2:((x :: xs).length == (y :: ys).length)=(xs.length == ys.length):=by
      simp only [List.length_cons]
      by_cases h:xs.length=ys.length
      · simp [h]
      · have h':¬ (xs.length+1=ys.length+1):=by omega
        simp [h,h']
    rw [e0,e1,e2,Bool.and_assoc]
theorem ar9 {xs ys:List D} (h:(xs.length != ys.length)=true):rN xs ys=false:=by
  rw [uV]
  have:(xs.length == ys.length)=false:=by simpa using h
  rw [this,Bool.and_false]
theorem amR {xs ys:List D} (h:xs.length=ys.length):rN xs ys=(List.range xs.length).all (a5A xs ys):=by
  rw [uV,h]
  simp
mutual
theorem RD.inj {pins:List (Addr×Obj)} {σ:St} {H:Hp} {s:Shared} (I:Inv X pins σ H s):∀ {n:Nat} {x y:D} {v:V},aO n x=true→aO n y=true→RD X.K H x v→RD X.K H y v→x=y
  | _,_,_,_,_,_,.non,.non=>rfl
  | _,_,_,_,_,_,.bl _,.bl _=>rfl
  | _,_,_,_,_,_,.int _,.int _=>rfl
  | _,_,_,_,_,_,.str _,.str _=>rfl
  | _,_,_,_,hx,_,.ty _,.ty _=>rfl
  | _,_,_,_,_,_,.ref _,.ref _=>rfl
  | n,_,_,_,hx,_,.ref _,.tup _ _ _=>by cases n <;> simp [aO] at hx
  | n,_,_,_,_,hy,.tup _ _ _,.ref _=>by cases n <;> simp [aO] at hy
  | 0,_,_,_,hx,_,.tup _ _ _,.tup _ _ _=>by simp [aO] at hx
  | n+1,_,_,_,hx,hy,.tup h1 r1 _,.tup h2 r2 _=>by
    have e:=I.amB h1 h2
    subst e
    rw [iG.inj I (n:=n) (by simpa [aO] using hx) (by simpa [aO] using hy) r1 r2]
theorem iG.inj {pins:List (Addr×Obj)} {σ:St} {H:Hp} {s:Shared} (I:Inv X pins σ H s):∀ {n:Nat} {xs ys:List D} {vs:List V},(∀ x∈xs,aO n x=true)→(∀ y∈ys,aO n y=true)→iG X.K H xs vs→iG X.K H ys vs→xs=ys
  | _,_,_,_,_,_,.nil,.nil=>rfl
  | n,_,_,_,hx,hy,.cons h1 r1,.cons h2 r2=>by
    rw [RD.inj I (hx _ (by simp)) (hy _ (by simp)) h1 h2,iG.inj I (fun x m=>hx x (by simp [m])) (fun y m=>hy y (by simp [m])) r1 r2]
end
mutual
theorem arA:∀ {n:Nat} {x:D},aO n x=true→eqP x x=true
  | _,.non,_=>rfl
  | _,.bl b,_=>by simp [eqP]
  | _,.int b,_=>by simp [eqP]
  | _,.str b,_=>by simp [eqP]
  | n,.ref _,h=>by cases n <;> simp [aO] at h
  | n,.ty _,h=>by cases n <;> simp [aO] at h
  | 0,.tup _,h=>by simp [aO] at h
  | n+1,.tup xs,h=>by rw [eqP];exact amS (n:=n) (by simpa [aO] using h)
theorem amS:∀ {n:Nat} {xs:List D},(∀ x∈xs,aO n x=true)→rN xs xs=true
  | _,[],_=>rfl
  | n,x :: xs,h=>by rw [rN,arA (h x (by simp)),amS fun y m=>h y (by simp [m])];rfl
end
theorem Vals.aBE {K:Fg} {H:Hp} {ds:List D} {xs:List V} {us:List Value} (r:iG K H ds xs) (v:Vals xs us) {j:Nat} {u:Value} (e:us[j]?=some u):∃ d x,ds[j]?=some d∧RD K H d x∧RelV x u:=by
  have hj:j < us.length:=(List.getElem?_eq_some_iff.mp e).1
  have hj':j < xs.length:=by rw [v.length];exact hj
  have ex:xs[j]?=some xs[j]:=List.getElem?_eq_getElem hj'
  obtain ⟨u',e1,r1⟩:=v.get ex
  rw [e] at e1;cases e1
  obtain ⟨d,e2,r2⟩:=r.aFP ex
  exact ⟨d,_,e2,r2,r1⟩
theorem a81 {A:Around} {s:Shared} {K:Fg} {H:Hp} {n:Nat} {xs ys:List D} {vx vy:List V} {us ws:List Value} (rx:iG K H xs vx) (ry:iG K H ys vy) (vx':Vals vx us) (vy':Vals vy ws)
    (ih:∀ x∈xs,∀ y∈ys,∀ (v w:V) (u t:Value),RD K H x v→RD K H y w→RelV v u→RelV w t→SeqAt.EqAt A s u t (eqP x y)) :
    ∀ j (h1:j < us.toArray.size) (h2:j < ws.toArray.size),SeqAt.EqAt A s us.toArray[j] ws.toArray[j] (a5A xs ys j):=by
  intro j h1 h2
  have e1:us[j]?=some us.toArray[j]:=by simp [List.getElem?_eq_getElem (show j < us.length by simpa using h1)]
  have e2:ws[j]?=some ws.toArray[j]:=by simp [List.getElem?_eq_getElem (show j < ws.length by simpa using h2)]
  obtain ⟨d,x,f1,f2,f3⟩:=Vals.aBE rx vx' e1
  obtain ⟨d',y,g1,g2,g3⟩:=Vals.aBE ry vy' e2
  have e:a5A xs ys j=eqP d d':=by simp [a5A,f1,g1]
  rw [e]
  exact ih d (List.mem_of_getElem? f1) d' (List.mem_of_getElem? g1) x y _ _ f2 g2 f3 g3
def scD:D→Bool
  | .non=>true
  | .bl _=>true
  | .int _=>true
  | .str _=>true
  | _=>false
theorem aG2 {A:Around} {s:Shared} {K:Fg} {H:Hp} {x y:D} {vx vy:V} {u v:Value} (hx:scD x=true) (hy:scD y=true) (rx:RD K H x vx) (ry:RD K H y vy) (ru:RelV vx u) (rv:RelV vy v):SeqAt.EqAt A s u v (eqP x y):=by
  have fx:a6V vx=true:=by cases rx <;> first | rfl | cases hx
  have fy:a6V vy=true:=by cases ry <;> first | rfl | cases hy
  have e:eqV vx vy=eqP x y:=by cases rx <;> cases ry <;> first | (simp [eqV,eqP];done) | cases hx | cases hy
  rw [← e]
  exact aeO ru rv fx fy
theorem a82 {A:Around} {n:Nat} (h:A.units+(n+1) < cLine):A.in1.units+n < cLine:=by
  show A.units+1+n < cLine
  omega
theorem aoE {pins:List (Addr×Obj)} {σ:St} {H:Hp} {s:Shared} (I:Inv X pins σ H s):∀ (n:Nat) (A:Around) (x y:D) (vx vy:V) (u v:Value),A.units+n < cLine→aO n x=true→aO n y=true→RD X.K H x vx→RD X.K H y vy→RelV vx u→RelV vy v→SeqAt.EqAt A s u v (eqP x y):=by
  intro n
  induction n with
  | zero =>
    intro A x y vx vy u v hu hx hy rx ry ru rv
    have sx:scD x=true:=by cases x <;> first | rfl | (simp [aO] at hx)
    have sy:scD y=true:=by cases y <;> first | rfl | (simp [aO] at hy)
    exact aG2 sx sy rx ry ru rv
  | succ n ih =>
    intro A x y vx vy u v hu hx hy rx ry ru rv
    have hu0:A.units < cLine:=by omega
    cases rx with
    | @tup ax xs ds hax rax eax =>
      cases ru
      obtain ⟨its,vv,px,_⟩:=I.tuple hax
      cases ry with
      | @tup ay ys es hay ray eay =>
        cases rv
        obtain ⟨jts,ww,py,_⟩:=I.tuple hay
        by_cases hab:ax=ay
        · subst hab
          have e:=RD.inj I (n:=n+1) hx hy (.tup hax rax eax) (.tup hay ray eay)
          rw [e,arA hy]
          exact SeqAt.EqAt.same _
        · refine SeqAt.EqAt.of_refs hab ?_
          have z:=SeqAt.RcAt.tuples (e:=a5A ds es) (show s.heap.IsTuple ax its.toArray from px) (show s.heap.IsTuple ay jts.toArray from py) hu0 (a81 (n:=n) rax ray vv ww fun x mx y my v w u t r1 r2 r3 r4 =>
            ih A.in1 x y v w u t (a82 hu) (List.all_eq_true.mp (by simpa [aO] using hx) x mx) (List.all_eq_true.mp (by simpa [aO] using hy) y my) r1 r2 r3 r4)
          have e:((List.range (min its.toArray.size jts.toArray.size)).all (a5A ds es)&&its.toArray.size == jts.toArray.size)=eqP (.tup ds) (.tup es):=by
            rw [eqP,uV,List.size_toArray,List.size_toArray,← vv.length,← ww.length,← rax.length,← ray.length]
          rw [e] at z
          exact z
      | non=>cases rv;exact SeqAt.EqAt.tuple_none (show s.heap.IsTuple ax its.toArray from px) hu0
      | bl b=>cases rv;exact SeqAt.EqAt.tuple_bool b (show s.heap.IsTuple ax its.toArray from px) hu0
      | int i=>obtain ⟨t,rfl⟩:=rv;exact SeqAt.EqAt.tuple_int i t (show s.heap.IsTuple ax its.toArray from px) hu0
      | str z=>obtain ⟨t,rfl⟩:=rv;exact SeqAt.EqAt.tuple_str z t (show s.heap.IsTuple ax its.toArray from px) hu0
      | ref _=>simp [aO] at hy
      | ty _=>simp [aO] at hy
    | ref _=>simp [aO] at hx
    | ty _=>simp [aO] at hx
    | non =>
      cases ry with
      | @tup ay ys es hay ray =>
        cases rv;cases ru
        obtain ⟨jts,ww,py,_⟩:=I.tuple hay
        exact SeqAt.EqAt.none_tuple (show s.heap.IsTuple ay jts.toArray from py) hu0
      | ref _=>simp [aO] at hy
      | ty _=>simp [aO] at hy
      | _=>exact aeO ru rv rfl rfl
    | bl b =>
      cases ry with
      | @tup ay ys es hay ray =>
        cases rv;cases ru
        obtain ⟨jts,ww,py,_⟩:=I.tuple hay
        exact SeqAt.EqAt.bool_tuple b (show s.heap.IsTuple ay jts.toArray from py) hu0
      | ref _=>simp [aO] at hy
      | ty _=>simp [aO] at hy
      | _=>exact aeO ru rv rfl rfl
    | int i =>
      cases ry with
      | @tup ay ys es hay ray =>
        cases rv;obtain ⟨t,rfl⟩:=ru
        obtain ⟨jts,ww,py,_⟩:=I.tuple hay
        exact SeqAt.EqAt.int_tuple i t (show s.heap.IsTuple ay jts.toArray from py) hu0
      | ref _=>simp [aO] at hy
      | ty _=>simp [aO] at hy
      | _=>exact aeO ru rv rfl rfl
    | str z =>
      cases ry with
      | @tup ay ys es hay ray =>
        cases rv;obtain ⟨t,rfl⟩:=ru
        obtain ⟨jts,ww,py,_⟩:=I.tuple hay
        exact SeqAt.EqAt.str_tuple z t (show s.heap.IsTuple ay jts.toArray from py) hu0
      | ref _=>simp [aO] at hy
      | ty _=>simp [aO] at hy
      | _=>exact aeO ru rv rfl rfl
end
end L2
namespace L2
open PySem PySem.Spec PyProof.Rows
section
variable {X:Cx}
theorem aY0 {pins:List (Addr×Obj)} {σ:St} {H:Hp} {s:Shared} (I:Inv X pins σ H s) (n:Nat) (A:Around) (x y:D) (vx vy:V) (u v:Value) (hu:A.units+(n+1) < cLine) (hx:aO (n+1) x=true) (hy:aO (n+1) y=true) (rx:RD X.K H x vx) (ry:RD X.K H y vy) (ru:RelV vx u) (rv:RelV vy v):SeqAt.RcAt A s u v (eqP x y):=by
  have hu0:A.units < cLine:=by omega
  cases rx with
  | non =>
    cases ru
    cases ry with
    | non =>
      cases rv
      first | exact SeqAt.RcAt.none_none | (simp only [eqP];exact SeqAt.RcAt.none_none)
    | bl b2 =>
      cases rv
      first | exact SeqAt.RcAt.none_bool b2 | (simp only [eqP];exact SeqAt.RcAt.none_bool b2)
    | int i2 =>
      obtain ⟨t2,rfl⟩:=rv
      first | exact SeqAt.RcAt.none_int i2 t2 | (simp only [eqP];exact SeqAt.RcAt.none_int i2 t2)
    | str z2 =>
      obtain ⟨t2,rfl⟩:=rv
      first | exact SeqAt.RcAt.none_str z2 t2 | (simp only [eqP];exact SeqAt.RcAt.none_str z2 t2)
    | @tup a2 xs2 ds2 h2 r2 =>
      cases rv
      obtain ⟨its2,vv2,p2,_⟩:=I.tuple h2
      first | exact SeqAt.RcAt.none_tuple (show s.heap.IsTuple a2 its2.toArray from p2) hu0 | (simp only [eqP];exact SeqAt.RcAt.none_tuple (show s.heap.IsTuple a2 its2.toArray from p2) hu0)
    | ref _=>simp [aO] at hy
    | ty _=>simp [aO] at hy
  | bl b1 =>
    cases ru
    cases ry with
    | non =>
      cases rv
      first | exact SeqAt.RcAt.bool_none b1 | (simp only [eqP];exact SeqAt.RcAt.bool_none b1)
    | bl b2 =>
      cases rv
      first | exact SeqAt.RcAt.bool_bool b1 b2 | (simp only [eqP];exact SeqAt.RcAt.bool_bool b1 b2)
    | int i2 =>
      obtain ⟨t2,rfl⟩:=rv
      first | exact SeqAt.RcAt.bool_int b1 i2 t2 | (simp only [eqP];exact SeqAt.RcAt.bool_int b1 i2 t2)
    | str z2 =>
      obtain ⟨t2,rfl⟩:=rv
      first | exact SeqAt.RcAt.bool_str b1 z2 t2 | (simp only [eqP];exact SeqAt.RcAt.bool_str b1 z2 t2)
    | @tup a2 xs2 ds2 h2 r2 =>
      cases rv
      obtain ⟨its2,vv2,p2,_⟩:=I.tuple h2
      first | exact SeqAt.RcAt.bool_tuple b1 (show s.heap.IsTuple a2 its2.toArray from p2) hu0 | (simp only [eqP];exact SeqAt.RcAt.bool_tuple b1 (show s.heap.IsTuple a2 its2.toArray from p2) hu0)
    | ref _=>simp [aO] at hy
    | ty _=>simp [aO] at hy
  | int i1 =>
    obtain ⟨t1,rfl⟩:=ru
    cases ry with
    | non =>
      cases rv
      first | exact SeqAt.RcAt.int_none i1 t1 | (simp only [eqP];exact SeqAt.RcAt.int_none i1 t1)
    | bl b2 =>
      cases rv
      first | exact SeqAt.RcAt.int_bool i1 t1 b2 | (simp only [eqP];exact SeqAt.RcAt.int_bool i1 t1 b2)
    | int i2 =>
      obtain ⟨t2,rfl⟩:=rv
      first | exact SeqAt.RcAt.int_int i1 t1 i2 t2 | (simp only [eqP];exact SeqAt.RcAt.int_int i1 t1 i2 t2)
    | str z2 =>
      obtain ⟨t2,rfl⟩:=rv
      first | exact SeqAt.RcAt.int_str i1 t1 z2 t2 | (simp only [eqP];exact SeqAt.RcAt.int_str i1 t1 z2 t2)
    | @tup a2 xs2 ds2 h2 r2 =>
      cases rv
      obtain ⟨its2,vv2,p2,_⟩:=I.tuple h2
      first | exact SeqAt.RcAt.int_tuple i1 t1 (show s.heap.IsTuple a2 its2.toArray from p2) hu0 | (simp only [eqP];exact SeqAt.RcAt.int_tuple i1 t1 (show s.heap.IsTuple a2 its2.toArray from p2) hu0)
    | ref _=>simp [aO] at hy
    | ty _=>simp [aO] at hy
  | str z1 =>
    obtain ⟨t1,rfl⟩:=ru
    cases ry with
    | non =>
      cases rv
      first | exact SeqAt.RcAt.str_none z1 t1 | (simp only [eqP];exact SeqAt.RcAt.str_none z1 t1)
    | bl b2 =>
      cases rv
      first | exact SeqAt.RcAt.str_bool z1 t1 b2 | (simp only [eqP];exact SeqAt.RcAt.str_bool z1 t1 b2)
    | int i2 =>
      obtain ⟨t2,rfl⟩:=rv
      first | exact SeqAt.RcAt.str_int z1 t1 i2 t2 | (simp only [eqP];exact SeqAt.RcAt.str_int z1 t1 i2 t2)
    | str z2 =>
      obtain ⟨t2,rfl⟩:=rv
      first | exact SeqAt.RcAt.str_str z1 t1 z2 t2 | (simp only [eqP];exact SeqAt.RcAt.str_str z1 t1 z2 t2)
    | @tup a2 xs2 ds2 h2 r2 =>
      cases rv
      obtain ⟨its2,vv2,p2,_⟩:=I.tuple h2
      first | exact SeqAt.RcAt.str_tuple z1 t1 (show s.heap.IsTuple a2 its2.toArray from p2) hu0 | (simp only [eqP];exact SeqAt.RcAt.str_tuple z1 t1 (show s.heap.IsTuple a2 its2.toArray from p2) hu0)
    | ref _=>simp [aO] at hy
    | ty _=>simp [aO] at hy
  | @tup a1 xs1 ds1 h1 r1 =>
    cases ru
    obtain ⟨n8,vv1,p1,_⟩:=I.tuple h1
    cases ry with
    | non =>
      cases rv
      first | exact SeqAt.RcAt.tuple_none (show s.heap.IsTuple a1 n8.toArray from p1) hu0 | (simp only [eqP];exact SeqAt.RcAt.tuple_none (show s.heap.IsTuple a1 n8.toArray from p1) hu0)
    | bl b2 =>
      cases rv
      first | exact SeqAt.RcAt.tuple_bool b2 (show s.heap.IsTuple a1 n8.toArray from p1) hu0 | (simp only [eqP];exact SeqAt.RcAt.tuple_bool b2 (show s.heap.IsTuple a1 n8.toArray from p1) hu0)
    | int i2 =>
      obtain ⟨t2,rfl⟩:=rv
      first | exact SeqAt.RcAt.tuple_int i2 t2 (show s.heap.IsTuple a1 n8.toArray from p1) hu0 | (simp only [eqP];exact SeqAt.RcAt.tuple_int i2 t2 (show s.heap.IsTuple a1 n8.toArray from p1) hu0)
    | str z2 =>
      obtain ⟨t2,rfl⟩:=rv
      first | exact SeqAt.RcAt.tuple_str z2 t2 (show s.heap.IsTuple a1 n8.toArray from p1) hu0 | (simp only [eqP];exact SeqAt.RcAt.tuple_str z2 t2 (show s.heap.IsTuple a1 n8.toArray from p1) hu0)
    | @tup a2 xs2 ds2 h2 r2 =>
      cases rv
      obtain ⟨its2,vv2,p2,_⟩:=I.tuple h2
      have z:=SeqAt.RcAt.tuples (e:=a5A ds1 ds2) (show s.heap.IsTuple a1 n8.toArray from p1) (show s.heap.IsTuple a2 its2.toArray from p2) hu0 (a81 (n:=n) r1 r2 vv1 vv2 fun x mx y my v w u t q1 q2 q3 q4 =>
            aoE I n A.in1 x y v w u t (a82 hu) (List.all_eq_true.mp (by simpa [aO] using hx) x mx) (List.all_eq_true.mp (by simpa [aO] using hy) y my) q1 q2 q3 q4)
      have e:((List.range (min n8.toArray.size its2.toArray.size)).all (a5A ds1 ds2)&&n8.toArray.size == its2.toArray.size)=eqP (.tup ds1) (.tup ds2):=by
        rw [eqP,uV,List.size_toArray,List.size_toArray,← vv1.length,← vv2.length,← r1.length,← r2.length]
      rw [e] at z
      exact z
    | ref _=>simp [aO] at hy
    | ty _=>simp [aO] at hy
  | ref _=>simp [aO] at hx
  | ty _=>simp [aO] at hx
theorem aY1 {pins:List (Addr×Obj)} {σ:St} {H:Hp} {s:Shared} (I:Inv X pins σ H s) (n:Nat) (A:Around) {a1:Addr} {xs:List V} (hl:SqL X.K H a1 xs) (y:D) (vy:V) (v:Value) (hu0:A.units < cLine) (hy:aO n y=true) (ry:RD X.K H y vy) (rv:RelV vy v):SeqAt.RcAt A s (.ref a1) v false:=by
  obtain ⟨n8,vv1,pl,_⟩:=I.list hl
  have p1:=pl.isList
  cases ry with
  | non =>
    cases rv
    exact SeqAt.RcAt.list_none p1 hu0
  | bl b2 =>
    cases rv
    exact SeqAt.RcAt.list_bool b2 p1 hu0
  | int i2 =>
    obtain ⟨t2,rfl⟩:=rv
    exact SeqAt.RcAt.list_int i2 t2 p1 hu0
  | str z2 =>
    obtain ⟨t2,rfl⟩:=rv
    exact SeqAt.RcAt.list_str z2 t2 p1 hu0
  | @tup a2 xs2 ds2 h2 r2 =>
    cases rv
    obtain ⟨its2,vv2,p2,_⟩:=I.tuple h2
    exact SeqAt.RcAt.list_tuple (show s.heap.IsList a1 n8.toArray from p1) (show s.heap.IsTuple a2 its2.toArray from p2) hu0
  | ref _=>cases n <;> simp [aO] at hy
  | ty _=>cases n <;> simp [aO] at hy
theorem aY2 {pins:List (Addr×Obj)} {σ:St} {H:Hp} {s:Shared} (I:Inv X pins σ H s) (n:Nat) (A:Around) {a2:Addr} {xs:List V} (hl:SqL X.K H a2 xs) (y:D) (vy:V) (v:Value) (hu0:A.units < cLine) (hy:aO n y=true) (ry:RD X.K H y vy) (rv:RelV vy v):SeqAt.RcAt A s v (.ref a2) false:=by
  obtain ⟨its2,vv2,pl,_⟩:=I.list hl
  have p2:=pl.isList
  cases ry with
  | non =>
    cases rv
    exact SeqAt.RcAt.none_list p2 hu0
  | bl b1 =>
    cases rv
    exact SeqAt.RcAt.bool_list b1 p2 hu0
  | int i1 =>
    obtain ⟨t1,rfl⟩:=rv
    exact SeqAt.RcAt.int_list i1 t1 p2 hu0
  | str z1 =>
    obtain ⟨t1,rfl⟩:=rv
    exact SeqAt.RcAt.str_list z1 t1 p2 hu0
  | @tup a1 xs1 ds1 h1 r1 =>
    cases rv
    obtain ⟨n8,vv1,p1,_⟩:=I.tuple h1
    exact SeqAt.RcAt.tuple_list (show s.heap.IsTuple a1 n8.toArray from p1) (show s.heap.IsList a2 its2.toArray from p2) hu0
  | ref _=>cases n <;> simp [aO] at hy
  | ty _=>cases n <;> simp [aO] at hy
theorem aY3 {pins:List (Addr×Obj)} {σ:St} {H:Hp} {s:Shared} (I:Inv X pins σ H s) (n:Nat) (A:Around) {a1 a2:Addr} {xs1 xs2:List V} {ds1 ds2:List D} (h1:SqL X.K H a1 xs1) (h2:SqL X.K H a2 xs2) (r1:iG X.K H ds1 xs1) (r2:iG X.K H ds2 xs2)
    (hu:A.units+(n+1) < cLine) (hx:ds1.all (aO n)=true) (hy:ds2.all (aO n)=true):SeqAt.RcAt A s (.ref a1) (.ref a2) (rN ds1 ds2):=by
  have hu0:A.units < cLine:=by omega
  obtain ⟨n8,vv1,q1,_⟩:=I.list h1
  obtain ⟨its2,vv2,q2,_⟩:=I.list h2
  have p1:=q1.isList
  have p2:=q2.isList
  by_cases hl:ds1.length=ds2.length
  · have hsz:n8.toArray.size=its2.toArray.size:=by rw [List.size_toArray,List.size_toArray,← vv1.length,← vv2.length,← r1.length,← r2.length];exact hl
    have z:=SeqAt.RcAt.lists (e:=a5A ds1 ds2) p1 p2 hsz hu0 (a81 (n:=n) r1 r2 vv1 vv2 fun x mx y my v w u t q1 q2 q3 q4 =>
            aoE I n A.in1 x y v w u t (a82 hu) (List.all_eq_true.mp hx x mx) (List.all_eq_true.mp hy y my) q1 q2 q3 q4)
    have e:(List.range n8.toArray.size).all (a5A ds1 ds2)=rN ds1 ds2:=by rw [amR hl,List.size_toArray,← vv1.length,← r1.length]
    rw [e] at z
    exact z
  · have hne:(n8.toArray.size != its2.toArray.size)=true:=by rw [List.size_toArray,List.size_toArray,← vv1.length,← vv2.length,← r1.length,← r2.length];simpa using hl
    have e:rN ds1 ds2=false:=ar9 (by simpa using hl)
    rw [e]
    exact SeqAt.RcAt.lists_lengths p1 p2 hne hu0
theorem aN9 {pins:List (Addr×Obj)} {σ:St} {H:Hp} {s:Shared} (I:Inv X pins σ H s) (n:Nat) (A:Around) (x y:D) (vx vy:V) (u v:Value) (hu:A.units+(n+1) < cLine) (hx:aO (n+1) x=true) (hy:aO (n+1) y=true) (rx:RD X.K H x vx) (ry:RD X.K H y vy) (ru:RelV vx u) (rv:RelV vy v):SeqAt.RcNeAt A s u v (!eqP x y):=by
  have hu0:A.units < cLine:=by omega
  cases rx with
  | non =>
    cases ru
    cases ry with
    | non =>
      cases rv
      first | exact SeqAt.RcNeAt.none_none | (simp only [eqP];exact SeqAt.RcNeAt.none_none)
    | bl b2 =>
      cases rv
      first | exact SeqAt.RcNeAt.none_bool b2 | (simp only [eqP];exact SeqAt.RcNeAt.none_bool b2)
    | int i2 =>
      obtain ⟨t2,rfl⟩:=rv
      first | exact SeqAt.RcNeAt.none_int i2 t2 | (simp only [eqP];exact SeqAt.RcNeAt.none_int i2 t2)
    | str z2 =>
      obtain ⟨t2,rfl⟩:=rv
      first | exact SeqAt.RcNeAt.none_str z2 t2 | (simp only [eqP];exact SeqAt.RcNeAt.none_str z2 t2)
    | @tup a2 xs2 ds2 h2 r2 =>
      cases rv
      obtain ⟨its2,vv2,p2,_⟩:=I.tuple h2
      first | exact SeqAt.RcNeAt.none_tuple (show s.heap.IsTuple a2 its2.toArray from p2) hu0 | (simp only [eqP];exact SeqAt.RcNeAt.none_tuple (show s.heap.IsTuple a2 its2.toArray from p2) hu0)
    | ref _=>simp [aO] at hy
    | ty _=>simp [aO] at hy
  | bl b1 =>
    cases ru
    cases ry with
    | non =>
      cases rv
      first | exact SeqAt.RcNeAt.bool_none b1 | (simp only [eqP];exact SeqAt.RcNeAt.bool_none b1)
    | bl b2 =>
      cases rv
      first | exact SeqAt.RcNeAt.bool_bool b1 b2 | (simp only [eqP];exact SeqAt.RcNeAt.bool_bool b1 b2)
    | int i2 =>
      obtain ⟨t2,rfl⟩:=rv
      first | exact SeqAt.RcNeAt.bool_int b1 i2 t2 | (simp only [eqP];exact SeqAt.RcNeAt.bool_int b1 i2 t2)
    | str z2 =>
      obtain ⟨t2,rfl⟩:=rv
      first | exact SeqAt.RcNeAt.bool_str b1 z2 t2 | (simp only [eqP];exact SeqAt.RcNeAt.bool_str b1 z2 t2)
    | @tup a2 xs2 ds2 h2 r2 =>
      cases rv
      obtain ⟨its2,vv2,p2,_⟩:=I.tuple h2
      first | exact SeqAt.RcNeAt.bool_tuple b1 (show s.heap.IsTuple a2 its2.toArray from p2) hu0 | (simp only [eqP];exact SeqAt.RcNeAt.bool_tuple b1 (show s.heap.IsTuple a2 its2.toArray from p2) hu0)
    | ref _=>simp [aO] at hy
    | ty _=>simp [aO] at hy
  | int i1 =>
    obtain ⟨t1,rfl⟩:=ru
    cases ry with
    | non =>
      cases rv
      first | exact SeqAt.RcNeAt.int_none i1 t1 | (simp only [eqP];exact SeqAt.RcNeAt.int_none i1 t1)
    | bl b2 =>
      cases rv
      first | exact SeqAt.RcNeAt.int_bool i1 t1 b2 | (simp only [eqP];exact SeqAt.RcNeAt.int_bool i1 t1 b2)
    | int i2 =>
      obtain ⟨t2,rfl⟩:=rv
      first | exact SeqAt.RcNeAt.int_int i1 t1 i2 t2 | (simp only [eqP];exact SeqAt.RcNeAt.int_int i1 t1 i2 t2)
    | str z2 =>
      obtain ⟨t2,rfl⟩:=rv
      first | exact SeqAt.RcNeAt.int_str i1 t1 z2 t2 | (simp only [eqP];exact SeqAt.RcNeAt.int_str i1 t1 z2 t2)
    | @tup a2 xs2 ds2 h2 r2 =>
      cases rv
      obtain ⟨its2,vv2,p2,_⟩:=I.tuple h2
      first | exact SeqAt.RcNeAt.int_tuple i1 t1 (show s.heap.IsTuple a2 its2.toArray from p2) hu0 | (simp only [eqP];exact SeqAt.RcNeAt.int_tuple i1 t1 (show s.heap.IsTuple a2 its2.toArray from p2) hu0)
    | ref _=>simp [aO] at hy
    | ty _=>simp [aO] at hy
  | str z1 =>
    obtain ⟨t1,rfl⟩:=ru
    cases ry with
    | non =>
      cases rv
      first | exact SeqAt.RcNeAt.str_none z1 t1 | (simp only [eqP];exact SeqAt.RcNeAt.str_none z1 t1)
    | bl b2 =>
      cases rv
      first | exact SeqAt.RcNeAt.str_bool z1 t1 b2 | (simp only [eqP];exact SeqAt.RcNeAt.str_bool z1 t1 b2)
    | int i2 =>
      obtain ⟨t2,rfl⟩:=rv
      first | exact SeqAt.RcNeAt.str_int z1 t1 i2 t2 | (simp only [eqP];exact SeqAt.RcNeAt.str_int z1 t1 i2 t2)
    | str z2 =>
      obtain ⟨t2,rfl⟩:=rv
      first | exact SeqAt.RcNeAt.str_str z1 t1 z2 t2 | (simp only [eqP];exact SeqAt.RcNeAt.str_str z1 t1 z2 t2)
    | @tup a2 xs2 ds2 h2 r2 =>
      cases rv
      obtain ⟨its2,vv2,p2,_⟩:=I.tuple h2
      first | exact SeqAt.RcNeAt.str_tuple z1 t1 (show s.heap.IsTuple a2 its2.toArray from p2) hu0 | (simp only [eqP];exact SeqAt.RcNeAt.str_tuple z1 t1 (show s.heap.IsTuple a2 its2.toArray from p2) hu0)
    | ref _=>simp [aO] at hy
    | ty _=>simp [aO] at hy
  | @tup a1 xs1 ds1 h1 r1 =>
    cases ru
    obtain ⟨n8,vv1,p1,_⟩:=I.tuple h1
    cases ry with
    | non =>
      cases rv
      first | exact SeqAt.RcNeAt.tuple_none (show s.heap.IsTuple a1 n8.toArray from p1) hu0 | (simp only [eqP];exact SeqAt.RcNeAt.tuple_none (show s.heap.IsTuple a1 n8.toArray from p1) hu0)
    | bl b2 =>
      cases rv
      first | exact SeqAt.RcNeAt.tuple_bool b2 (show s.heap.IsTuple a1 n8.toArray from p1) hu0 | (simp only [eqP];exact SeqAt.RcNeAt.tuple_bool b2 (show s.heap.IsTuple a1 n8.toArray from p1) hu0)
    | int i2 =>
      obtain ⟨t2,rfl⟩:=rv
      first | exact SeqAt.RcNeAt.tuple_int i2 t2 (show s.heap.IsTuple a1 n8.toArray from p1) hu0 | (simp only [eqP];exact SeqAt.RcNeAt.tuple_int i2 t2 (show s.heap.IsTuple a1 n8.toArray from p1) hu0)
    | str z2 =>
      obtain ⟨t2,rfl⟩:=rv
      first | exact SeqAt.RcNeAt.tuple_str z2 t2 (show s.heap.IsTuple a1 n8.toArray from p1) hu0 | (simp only [eqP];exact SeqAt.RcNeAt.tuple_str z2 t2 (show s.heap.IsTuple a1 n8.toArray from p1) hu0)
    | @tup a2 xs2 ds2 h2 r2 =>
      cases rv
      obtain ⟨its2,vv2,p2,_⟩:=I.tuple h2
      have z:=SeqAt.RcNeAt.tuples (e:=a5A ds1 ds2) (show s.heap.IsTuple a1 n8.toArray from p1) (show s.heap.IsTuple a2 its2.toArray from p2) hu0 (a81 (n:=n) r1 r2 vv1 vv2 fun x mx y my v w u t q1 q2 q3 q4 =>
            aoE I n A.in1 x y v w u t (a82 hu) (List.all_eq_true.mp (by simpa [aO] using hx) x mx) (List.all_eq_true.mp (by simpa [aO] using hy) y my) q1 q2 q3 q4)
      have e:((List.range (min n8.toArray.size its2.toArray.size)).all (a5A ds1 ds2)&&n8.toArray.size == its2.toArray.size)=eqP (.tup ds1) (.tup ds2):=by
        rw [eqP,uV,List.size_toArray,List.size_toArray,← vv1.length,← vv2.length,← r1.length,← r2.length]
      rw [e] at z
      exact z
    | ref _=>simp [aO] at hy
    | ty _=>simp [aO] at hy
  | ref _=>simp [aO] at hx
  | ty _=>simp [aO] at hx
theorem aNA {pins:List (Addr×Obj)} {σ:St} {H:Hp} {s:Shared} (I:Inv X pins σ H s) (n:Nat) (A:Around) {a1:Addr} {xs:List V} (hl:SqL X.K H a1 xs) (y:D) (vy:V) (v:Value) (hu0:A.units < cLine) (hy:aO n y=true) (ry:RD X.K H y vy) (rv:RelV vy v):SeqAt.RcNeAt A s (.ref a1) v true:=by
  obtain ⟨n8,vv1,pl,_⟩:=I.list hl
  have p1:=pl.isList
  cases ry with
  | non =>
    cases rv
    exact SeqAt.RcNeAt.list_none p1 hu0
  | bl b2 =>
    cases rv
    exact SeqAt.RcNeAt.list_bool b2 p1 hu0
  | int i2 =>
    obtain ⟨t2,rfl⟩:=rv
    exact SeqAt.RcNeAt.list_int i2 t2 p1 hu0
  | str z2 =>
    obtain ⟨t2,rfl⟩:=rv
    exact SeqAt.RcNeAt.list_str z2 t2 p1 hu0
  | @tup a2 xs2 ds2 h2 r2 =>
    cases rv
    obtain ⟨its2,vv2,p2,_⟩:=I.tuple h2
    exact SeqAt.RcNeAt.list_tuple (show s.heap.IsList a1 n8.toArray from p1) (show s.heap.IsTuple a2 its2.toArray from p2) hu0
  | ref _=>cases n <;> simp [aO] at hy
  | ty _=>cases n <;> simp [aO] at hy
theorem aNB {pins:List (Addr×Obj)} {σ:St} {H:Hp} {s:Shared} (I:Inv X pins σ H s) (n:Nat) (A:Around) {a2:Addr} {xs:List V} (hl:SqL X.K H a2 xs) (y:D) (vy:V) (v:Value) (hu0:A.units < cLine) (hy:aO n y=true) (ry:RD X.K H y vy) (rv:RelV vy v):SeqAt.RcNeAt A s v (.ref a2) true:=by
  obtain ⟨its2,vv2,pl,_⟩:=I.list hl
  have p2:=pl.isList
  cases ry with
  | non =>
    cases rv
    exact SeqAt.RcNeAt.none_list p2 hu0
  | bl b1 =>
    cases rv
    exact SeqAt.RcNeAt.bool_list b1 p2 hu0
  | int i1 =>
    obtain ⟨t1,rfl⟩:=rv
    exact SeqAt.RcNeAt.int_list i1 t1 p2 hu0
  | str z1 =>
    obtain ⟨t1,rfl⟩:=rv
    exact SeqAt.RcNeAt.str_list z1 t1 p2 hu0
  | @tup a1 xs1 ds1 h1 r1 =>
    cases rv
    obtain ⟨n8,vv1,p1,_⟩:=I.tuple h1
    exact SeqAt.RcNeAt.tuple_list (show s.heap.IsTuple a1 n8.toArray from p1) (show s.heap.IsList a2 its2.toArray from p2) hu0
  | ref _=>cases n <;> simp [aO] at hy
  | ty _=>cases n <;> simp [aO] at hy
theorem aNC {pins:List (Addr×Obj)} {σ:St} {H:Hp} {s:Shared} (I:Inv X pins σ H s) (n:Nat) (A:Around) {a1 a2:Addr} {xs1 xs2:List V} {ds1 ds2:List D} (h1:SqL X.K H a1 xs1) (h2:SqL X.K H a2 xs2) (r1:iG X.K H ds1 xs1) (r2:iG X.K H ds2 xs2)
    (hu:A.units+(n+1) < cLine) (hx:ds1.all (aO n)=true) (hy:ds2.all (aO n)=true):SeqAt.RcNeAt A s (.ref a1) (.ref a2) (!rN ds1 ds2):=by
  have hu0:A.units < cLine:=by omega
  obtain ⟨n8,vv1,q1,_⟩:=I.list h1
  obtain ⟨its2,vv2,q2,_⟩:=I.list h2
  have p1:=q1.isList
  have p2:=q2.isList
  by_cases hl:ds1.length=ds2.length
  · have hsz:n8.toArray.size=its2.toArray.size:=by rw [List.size_toArray,List.size_toArray,← vv1.length,← vv2.length,← r1.length,← r2.length];exact hl
    have z:=SeqAt.RcNeAt.lists (e:=a5A ds1 ds2) p1 p2 hsz hu0 (a81 (n:=n) r1 r2 vv1 vv2 fun x mx y my v w u t q1 q2 q3 q4 =>
            aoE I n A.in1 x y v w u t (a82 hu) (List.all_eq_true.mp hx x mx) (List.all_eq_true.mp hy y my) q1 q2 q3 q4)
    have e:(List.range n8.toArray.size).all (a5A ds1 ds2)=rN ds1 ds2:=by rw [amR hl,List.size_toArray,← vv1.length,← r1.length]
    rw [e] at z
    exact z
  · have hne:(n8.toArray.size != its2.toArray.size)=true:=by rw [List.size_toArray,List.size_toArray,← vv1.length,← vv2.length,← r1.length,← r2.length];simpa using hl
    have e:rN ds1 ds2=false:=ar9 (by simpa using hl)
    rw [e]
    exact SeqAt.RcNeAt.lists_lengths p1 p2 hne hu0
def eqG (G:Gp) (x y:D) (k:Bool→Prop):Prop:=match x,y with
  | .ref a,.ref b=>(match bZ G a,bZ G b with
    | some xs,some ys=>xs.all (aO 20)=true∧ys.all (aO 20)=true∧k (rN xs ys)
    | _,_=>False)
  | .ref a,y=>(match bZ G a with
    | some _=>aO 20 y=true∧k false
    | none=>False)
  | x,.ref b=>(match bZ G b with
    | some _=>aO 20 x=true∧k false
    | none=>False)
  | x,y=>aO 20 x=true∧aO 20 y=true∧k (eqP x y)
def a5B:R3:=fun x y G R=>eqG G x y fun b=>R (.bl b) G
def aeT:R3:=fun x y G R=>eqG G x y fun b=>R (.bl (!b)) G
theorem aiT {f:Value→Value→Sem Value} {r3:R3} (h:∀ (pins:List (Addr×Obj)) (s:Shared) (σ:St) (H:Hp) (x y:D) (vx vy:V) (u v:Value) (G:Gp) (R:oK) (Q:VK),Inv X pins σ H s→RD X.K H x vx→RD X.K H y vy→RelV vx u→RelV vy v→HR X.K H G→r3 x y G R →
      (∀ w H' d G',Ts H H'→RD X.K H' d w→HR X.K H' G'→R d G'→Q w H')→wpAny (model X.prog X.w) X.A (f u v) (EP X pins σ Q) X.xe s):yV X f r3 :=
  ⟨fun vx vy H Q=>∃ x y G R,RD X.K H x vx∧RD X.K H y vy∧HR X.K H G∧r3 x y G R∧∀ w H' d G',Ts H H'→RD X.K H' d w→HR X.K H' G'→R d G'→Q w H',
    fun pins s σ H vx vy u v Q I ru rv ⟨x,y,G,R,rx,ry,g,q,k⟩=>h pins s σ H x y vx vy u v G R Q I rx ry ru rv g q k,fun H x y vx vy G R Q rx ry g q k=>⟨x,y,G,R,rx,ry,g,q,k⟩⟩
theorem awW (hu:X.A.units+64 < cLine) {neg:Bool} {op:CmpOp} (hop:op=if neg then .NotEq else .Eq) {pins:List (Addr×Obj)} {s:Shared} {σ:St} {H:Hp} {x y:D} {vx vy:V} {u v:Value} {G:Gp} {k:Bool→Prop} {Q:VK} (I:Inv X pins σ H s) (rx:RD X.K H x vx) (ry:RD X.K H y vy) (ru:RelV vx u) (rv:RelV vy v) (g:HR X.K H G)
    (h:eqG G x y k) (hk:∀ b,k b→EP X pins σ Q (.bool (neg ^^ b)) s):wpAny (model X.prog X.w) X.A (compareOp op u v) (EP X pins σ Q) X.xe s:=by
  have fin:∀ {b:Bool},(if neg then SeqAt.RcNeAt X.A s u v (!b) else SeqAt.RcAt X.A s u v b)→k b→wpAny (model X.prog X.w) X.A (compareOp op u v) (EP X pins σ Q) X.xe s:=fun {b} z kb=>by
    have e:=hk b kb
    cases neg with
    | true =>
      subst hop
      rw [Bool.true_xor] at e
      exact z X.prog X.w X.xe _ e
    | false =>
      subst hop
      rw [Bool.false_xor] at e
      exact z X.prog X.w X.xe _ e
  have hu1:X.A.units+(20+1) < cLine:=by omega
  have hu2:X.A.units+(19+1) < cLine:=by omega
  have hu0:X.A.units < cLine:=by omega
  have plain:aO 20 x=true→aO 20 y=true→k (eqP x y)→wpAny (model X.prog X.w) X.A (compareOp op u v) (EP X pins σ Q) X.xe s:=fun hx hy kk=>fin (b:=eqP x y) (by
    cases neg with
    | true=>exact aN9 I 19 X.A x y vx vy u v hu2 hx hy rx ry ru rv
    | false=>exact aY0 I 19 X.A x y vx vy u v hu2 hx hy rx ry ru rv) kk
  have left:∀ a xs,x = .ref a→bZ G a=some xs→aO 20 y=true→k false→wpAny (model X.prog X.w) X.A (compareOp op u v) (EP X pins σ Q) X.xe s:=fun a xs e1 e2 hy kk=>by
    subst e1
    cases rx
    cases ru
    obtain ⟨zs,hz,_⟩:=gW g e2
    refine fin (b:=false) ?_ kk
    cases neg with
    | true=>exact aNA I 20 X.A hz y vy v hu0 hy ry rv
    | false=>exact aY1 I 20 X.A hz y vy v hu0 hy ry rv
  have right:∀ a xs,y = .ref a→bZ G a=some xs→aO 20 x=true→k false→wpAny (model X.prog X.w) X.A (compareOp op u v) (EP X pins σ Q) X.xe s:=fun a xs e1 e2 hy kk=>by
    subst e1
    cases ry
    cases rv
    obtain ⟨zs,hz,_⟩:=gW g e2
    refine fin (b:=false) ?_ kk
    cases neg with
    | true=>exact aNB I 20 X.A hz x vx u hu0 hy rx ru
    | false=>exact aY2 I 20 X.A hz x vx u hu0 hy rx ru
  unfold eqG at h
  split at h
  · rename_i a b
    split at h
    · rename_i xs ys e1 e2
      cases rx;cases ry;cases ru;cases rv
      obtain ⟨zs1,hz1,q1⟩:=gW g e1
      obtain ⟨zs2,hz2,q2⟩:=gW g e2
      refine fin (b:=rN xs ys) ?_ h.2.2
      cases neg with
      | true=>exact aNC I 20 X.A hz1 hz2 q1 q2 hu1 h.1 h.2.1
      | false=>exact aY3 I 20 X.A hz1 hz2 q1 q2 hu1 h.1 h.2.1
    · exact h.elim
  · rename_i a _
    split at h
    · rename_i xs e1
      exact left a xs rfl e1 h.1 h.2
    · exact h.elim
  · rename_i b _
    split at h
    · rename_i xs e1
      exact right b xs rfl e1 h.1 h.2
    · exact h.elim
  · exact plain h.1 h.2.1 h.2.2
theorem aY4 (hu:X.A.units+64 < cLine):yV X (compareOp .Eq) a5B:=aiT fun pins s σ H x y vx vy u v G R Q I rx ry ru rv g q k =>
  awW (neg:=false) hu rfl I rx ry ru rv g q fun b kb=>⟨.bl b,H,I,by rw [Bool.false_xor];rfl,k _ H (.bl b) G (.refl H) (.bl b) g kb⟩
theorem aY5 (hu:X.A.units+64 < cLine):yV X (compareOp .NotEq) aeT:=aiT fun pins s σ H x y vx vy u v G R Q I rx ry ru rv g q k =>
  awW (neg:=true) hu rfl I rx ry ru rv g q fun b kb=>⟨.bl (!b),H,I,by rw [Bool.true_xor];rfl,k _ H (.bl (!b)) G (.refl H) (.bl (!b)) g kb⟩
end
end L2
namespace L2
open PySem PySem.Spec PyProof.Rows PySem.W PySem.Calls
open PySem.Builtin PySem.Builtin.ObjectAttr PySem.Builtin.Getset_descriptor
section
variable {prog:Program} {w:World} {A:Around} {E:Value→Shared→Prop} {s:Shared} {K:Fg} {x C:Addr} {o:Obj}
theorem alK {tp:Value} {R:Result→Shared→Prop} (X:K.In s.heap) (hx:s.heap.get? x=some o) (hc:o.cls = .ref C) (hm:mroIn K C (.type "object")=some true)
    (h:R (.ok (.ret (.ref C))) s):codeAny (model prog w) A (.call (.builtin "getset_descriptor.__get__") ⟨[.builtin "object.__class__",.ref x,tp],[]⟩) R s:=by
  obtain ⟨hh,g,dr,t,os⟩:=s
  have L0:Looks (model prog w) hh (typeOf (.ref x)) (.ref C):=hc ▸ (Looks.ld hx).andThen .now
  have L1:=looks_mroIn (M:=model prog w) X hm
  refine codeAny_call_builtin KF.slot_gs.plain KF.entry_gs (KF.slot_gs.check _ _ _ _ _ _ _ _ KF.type_class (KF.args_gs _ _ _) ?_)
  unfold Builtin.«getset_descriptor.__get__» descrGet
  rw [dga_obj]
  refine wpAny_bind (wpAny_pure ?_)
  unfold descrGetter descrCheckInstance descrNameAndClass isInstance
  simp only [KF.owner_class]
  repeat lk
  refine ⟨Code.quiet_builtin _ (by decide +kernel),codeAny_builtin KF.entry_class ?_⟩
  unfold Builtin.«object.__class__» shownTypeOf
  repeat lk
  exact h
theorem az4 {Q:Option Value→Shared→Prop} (X:K.In s.heap) (hx:s.heap.get? x=some o) (hc:o.cls = .ref C)
    (hga:findIn K (.ref C) "__getattribute__" = some (some (.builtin "BaseException.__getattribute__"))) (hgn:findIn K (.ref C) "__getattr__" = some none) (ha:findIn K (.ref C) "__class__" = some (some (.builtin "object.__class__")))
    (hb:subIn K (.ref C) (.type "BaseException")=some true) (hm:mroIn K C (.type "object")=some true) (h:Q (some (.ref C)) { s with toks:=s.toks+1 }):wpAny (model prog w) A (getAttr? (.ref x) "__class__") Q E s:=by
  obtain ⟨hh,g,d,t,os⟩:=s
  have L0:Looks (model prog w) hh (typeOf (.ref x)) (.ref C):=hc ▸ (Looks.ld hx).andThen .now
  have L1:=looks_findIn (M:=model prog w) X hga
  have L2':=looks_findIn (M:=model prog w) X hgn
  have L3:=looks_findIn (M:=model prog w) X ha
  have L4:=looks_subIn (M:=model prog w) X hb
  unfold getAttr? getAttrBy? getAttrBy
  refine wpAny_bind (wpAny_mkText (wpAny_bind (wpAny_attempt (wpAny_holding (wpAny_bind (L0.at (wpAny_bind (L1.at ?_))))))))
  have hx2:(Value.builtin "BaseException.__getattribute__" == Value.builtin "object.__getattribute__")=false:=by decide +kernel
  have f3:=PySem.F.attr_ValueError.ga.bind (.ref x)
  have hk:builtinKind "BaseException.__getattribute__" = some .slot:=by decide +kernel
  have hsplit:splitId "BaseException.__getattribute__" = some ("BaseException", "__getattribute__"):=by decide +kernel
  have ha2:=PySem.F.args_bexc_ga (.ref x) (.str "__class__" t)
  repeat (first | with_reducible refine L0.at ?_ | with_reducible refine L1.at ?_ | with_reducible refine L2'.at ?_ | with_reducible refine L3.at ?_ | with_reducible refine L4.at ?_ | wp_step)
  refine codeAny_call_builtin PySem.F.attr_ValueError.ga.plain PySem.F.entry_bexc_ga ?_
  simp only [checkBuiltinCall,hk,hsplit]
  unfold isInstance
  have f5:=PySem.F.typeOf_object_class
  have f6:=PySem.F.slot_gs_get.lookup
  have f7:=PySem.F.slot_gs_set.lookup
  repeat (any_goals (first | assumption | with_reducible refine L0.at ?_ | with_reducible refine L1.at ?_ | with_reducible refine L2'.at ?_ | with_reducible refine L3.at ?_ | with_reducible refine L4.at ?_ | wp_step))
  refine alK X hx hc hm ?_
  repeat (any_goals (first | assumption | wp_step))
end
end L2
namespace L2
open PySem PySem.Spec PyProof.Rows
section
variable {X:Cx} {x:Str} {p pos:Pos} {e o:Expr} {es:List Expr} {t:zQ} {to:dX} {id T:String} {r3:List D→Gp→oK→Prop}
def fL (X:Cx) (f:Value) (r3:List D→Gp→oK→Prop):Prop :=
  ∀ (pins:List (Addr×Obj)) (s:Shared) (σ:St) (H:Hp) (xs:List D) (vs:List V) (us:List Value) (G:Gp) (R:oK) (Q:VK),Inv X pins σ H s→iG X.K H xs vs→Vals vs us→HR X.K H G→r3 xs G R →
    (∀ v H' d G',Ts H H'→RD X.K H' d v→HR X.K H' G'→R d G'→Q v H')→wpAny (model X.prog X.w) X.A (call f us) (EP X pins σ Q) X.xe s
theorem fL.of {f:Value} {r:List V→Hp→VK→Prop} (h:a3L X f r) (i:∀ (H:Hp) (xs:List D) (vs:List V) (G:Gp) (R:oK) (Q:VK),iG X.K H xs vs→HR X.K H G→r3 xs G R →
    (∀ v H' d G',Ts H H'→RD X.K H' d v→HR X.K H' G'→R d G'→Q v H')→r vs H fun v H'=>KF X.K H'→Q v H'):fL X f r3:=fun pins s σ H xs vs us G R Q I rx rv g q k =>
  kY (h pins s σ H vs us _ I rv (i H xs vs G R Q rx g q k)) fun _ _ ⟨v,H',I',r,q'⟩=>⟨v,H',I',r,q' (a6X I')⟩
def qF (r3:List D→Gp→oK→Prop) (t:zQ):dX:=fun ρ G R=>t ρ G fun xs G1=>r3 xs G1 R
theorem a5C (hc:fL X (.builtin id) r3) (hg:Gl X x) (hm:X.mg x=none) (hv:bootBuiltins x=some (.builtin id)) (ha:PA3 X (e :: es) t) (hn:x ≠ "__name__" := by decide) (hdb:(x == ("__debug__" : Str))=false:=by decide)
    (he:starEach (e :: es) X.env=(false,eval e X.env) :: starEach es X.env:=by rfl) (hpl:(backTo pos (starEach es X.env)).any (·.1)=false:=by rfl):gG X (.Call (.Name x p) (e :: es) [] pos) (qF r3 t):=by
  intro pins s σ H Q I h
  obtain ⟨ρ,G,R,sr,g,q,kk⟩:=h
  refine wpAny_Call_Name_kw (aeL I hg hm hv ?_ hn hdb)
  exact PyProof.Rows.callWith_builtin1 (kY (ha pos pins s σ H (fun vs H1=>Ts H H1∧∃ ds G1,iG X.K H1 ds vs∧HR X.K H1 G1∧r3 ds G1 R) I ⟨ρ,G,_,sr,g,q,fun vs H1 ds G1 t1 r1 g1 q1=>⟨t1,ds,G1,r1,g1,q1⟩⟩) fun us s1 ⟨vs,H1,I1,r,t1,ds,G1,r1,g1,q1⟩ =>
    hc pins s1 σ H1 ds vs us G1 R Q I1 r1 r g1 q1 fun v H' d G' t2=>kk v H' d G' (t1.trans t2)) he hpl
theorem arB (hc:fL X (.type T) r3) (hg:Gl X x) (hm:X.mg x=none) (hv:bootBuiltins x=some (.type T)) (ha:PA3 X (e :: es) t) (hn:x ≠ "__name__" := by decide) (hdb:(x == ("__debug__" : Str))=false:=by decide)
    (he:starEach (e :: es) X.env=(false,eval e X.env) :: starEach es X.env:=by rfl) (hpl:(backTo pos (starEach es X.env)).any (·.1)=false:=by rfl):gG X (.Call (.Name x p) (e :: es) [] pos) (qF r3 t):=by
  intro pins s σ H Q I h
  obtain ⟨ρ,G,R,sr,g,q,kk⟩:=h
  refine wpAny_Call_Name_kw (aeL I hg hm hv ?_ hn hdb)
  exact PyProof.Rows.callWith_type1 (kY (ha pos pins s σ H (fun vs H1=>Ts H H1∧∃ ds G1,iG X.K H1 ds vs∧HR X.K H1 G1∧r3 ds G1 R) I ⟨ρ,G,_,sr,g,q,fun vs H1 ds G1 t1 r1 g1 q1=>⟨t1,ds,G1,r1,g1,q1⟩⟩) fun us s1 ⟨vs,H1,I1,r,t1,ds,G1,r1,g1,q1⟩ =>
    hc pins s1 σ H1 ds vs us G1 R Q I1 r1 r g1 q1 fun v H' d G' t2=>kk v H' d G' (t1.trans t2)) he hpl
def a83:List D→Gp→oK→Prop:=fun xs G R=>match xs with
  | [.str z]=>z.length≤sizeLine∧R (.int z.length) G
  | [.tup ds]=>R (.int ds.length) G
  | [.ref q]=>(match bZ G q with
    | some ds=>R (.int ds.length) G
    | none=>False)
  | _=>False
theorem aT7:fL X (.builtin "len") a83:=fL.of (ao7.or ao8) fun H xs vs G R Q rx g q k=>by
  cases rx with
  | nil=>exact False.elim q
  | cons r rr =>
    cases rr with
    | cons _ _=>cases r <;> exact False.elim q
    | nil =>
      cases r with
      | str z=>exact .inr ⟨z,rfl,q.1,fun _=>k _ H _ G (.refl H) (.int _) g q.2⟩
      | @tup a xs ds ha ra=>exact .inl ⟨a,xs,rfl,.inr ha,fun _=>by rw [← ra.length];exact k _ H _ G (.refl H) (.int _) g q⟩
      | ref a =>
        have q':(match bZ G a with
          | some ds=>R (.int ds.length) G
          | none=>False):=q
        split at q'
        · rename_i ds e1
          obtain ⟨xs,h1,r1⟩:=gW g e1
          exact .inl ⟨a,xs,rfl,.inl h1,fun _=>by rw [← r1.length];exact k _ H _ G (.refl H) (.int _) g q'⟩
        · exact q'.elim
      | _=>exact False.elim q
def aT8:List D→Gp→oK→Prop:=fun xs G R=>match xs with
  | [.int i]=>R (.int (if i < 0 then -i else i)) G
  | _=>False
def amT:List D→Gp→oK→Prop:=fun xs G R=>match xs with
  | [.int i]=>R (.int i) G
  | [.bl b]=>R (.int (if b then 1 else 0)) G
  | _=>False
theorem aT9:fL X (.type "int") amT:=fL.of ayK fun H xs vs G R Q rx g q k=>by
  cases rx with
  | nil=>exact False.elim q
  | cons r rr =>
    cases rr with
    | cons _ _=>cases r <;> exact False.elim q
    | nil =>
      cases r with
      | int i=>exact .inl ⟨i,rfl,fun _=>k _ H _ G (.refl H) (.int _) g q⟩
      | bl b=>exact .inr ⟨b,rfl,fun _=>k _ H _ G (.refl H) (.int _) g q⟩
      | _=>exact False.elim q
def av0:List D→Gp→oK→Prop:=fun xs G R=>match xs with
  | [.tup ds]=>∀ l,G l=none→R (.ref l) (aQ G l (.lst ds))
  | [.ref q]=>(match bZ G q with
    | some ds=>∀ l,G l=none→R (.ref l) (aQ G l (.lst ds))
    | none=>False)
  | _=>False
theorem aND:fL X (.type "list") av0:=fL.of ao9 fun H xs vs G R Q rx g q k=>by
  cases rx with
  | nil=>exact False.elim q
  | cons r rr =>
    cases rr with
    | cons _ _=>cases r <;> exact False.elim q
    | nil =>
      cases r with
      | @tup a xs ds ha ra =>
        refine ⟨a,xs,rfl,.inr ha,fun l hl kf=>?_⟩
        have sn:Same H (upd H l (.lst xs)):=cU hl
        exact k _ _ _ _ (.same sn) (.ref l) (g.put (u := .lst ds) hl ⟨_,aV,ra.mono (.same sn)⟩) (q l (tH g hl kf))
      | ref a =>
        have q':(match bZ G a with
          | some ds=>∀ l,G l=none→R (.ref l) (aQ G l (.lst ds))
          | none=>False):=q
        split at q'
        · rename_i ds e1
          obtain ⟨xs,h1,r1⟩:=gW g e1
          refine ⟨a,xs,rfl,.inl h1,fun l hl kf=>?_⟩
          have sn:Same H (upd H l (.lst xs)):=cU hl
          exact k _ _ _ _ (.same sn) (.ref l) (g.put (u := .lst ds) hl ⟨_,aV,r1.mono (.same sn)⟩) (q' l (tH g hl kf))
        · exact q'.elim
      | _=>exact False.elim q
def tyD (G:Gp):D→Option String
  | .non=>some "NoneType"
  | .bl _=>some "bool"
  | .int _=>some "int"
  | .str _=>some "str"
  | .tup _=>some "tuple"
  | .ref q=>(match G q with
    | some (.lst _)=>some "list"
    | some (.rol _)=>some "list"
    | some (.dU _ _)=>some "dict"
    | _=>none)
  | .ty _=>none
def exD (G:Gp):D→Option Addr
  | .ref q=>(match G q with
    | some (.exn C)=>some C
    | _=>none)
  | _=>none
def subB (T n:String):Bool:=T == n || (T == "bool" && n == "int")
def aTA:List String:=["NoneType", "bool", "int", "str", "list", "tuple", "dict"]
def cV:List String:=["int", "bool", "str", "list", "tuple", "dict", "ValueError"]
theorem aNF:∀ T∈aTA,∀ n∈cV,PySem.W.kitOne [] (.type T) (.type n)=some (subB T n):=by decide +kernel
theorem yW (K:Fg) {T n:String} (h1:T∈aTA) (h2:n∈cV):PySem.W.kitOne K (.type T) (.type n)=some (subB T n):=aNF T h1 n h2
structure ExC (K:Fg) (C:Addr):Prop where
  ga:PySem.W.findIn K (.ref C) "__getattribute__" = some (some (.builtin "BaseException.__getattribute__"))
  gn:PySem.W.findIn K (.ref C) "__getattr__" = some none
  cl:PySem.W.findIn K (.ref C) "__class__" = some (some (.builtin "object.__class__"))
  be:PySem.W.subIn K (.ref C) (.type "BaseException")=some true
  ob:PySem.W.mroIn K C (.type "object")=some true
  cs:(PySem.W.clsIn K C).isSome=true
theorem aBF {K:Fg} {a C:Addr} (c:ExC K C):PySem.W.KitX K (.ref a) (.ref C) (aaY C a) where
  ty:=fun M h X ⟨o,vs,h1,h2,_⟩=>h2 ▸ (PySem.W.Looks.ld h1).andThen .now
  it:=fun M h X _=>by
    intro A' Q' E' s' k q
    cases eK:PySem.W.clsIn K C with
    | none=>have:=c.cs;rw [eK] at this;cases this
    | some cd =>
      unfold PySem.W.clsIn at eK
      split at eK
      · rename_i ho
        unfold isType loadHead
        exact wpAny_bind (wpAny_loadPart (k _ _ (X _ _ ho)) (wpAny_pure q))
      · cases eK
  ne:=fun h tp dd its n sl X htp=>by
    refine Bool.eq_false_iff.mpr fun q=>?_
    have e:C=tp:=Value.ref.inj (beq_iff_eq.mp q)
    subst e
    cases eK:PySem.W.clsIn K C with
    | none=>have:=c.cs;rw [eK] at this;cases this
    | some cd =>
      unfold PySem.W.clsIn at eK
      split at eK
      · rename_i ho
        have z:=(X _ _ ho).symm.trans htp
        cases z
      · cases eK
  ca:=fun X ⟨o,vs,h1,h2,_⟩ k=>az4 X h1 h2 c.ga c.gn c.cl c.be c.ob k
def aF (K:Fg):List D→Gp→oK→Prop:=fun xs G R=>match xs with
  | [x,.ty n]=>(match tyD G x with
    | some T=>n∈cV∧R (.bl (subB T n)) G
    | none=>(match exD G x with
      | some C=>∃ b,ExC K C∧PySem.W.kitOne K (.ref C) (.type n)=some b∧R (.bl b) G
      | none=>False))
  | [x,.ref C']=>(match exD G x with
    | some C=>∃ b,ExC K C∧PySem.W.kitOne K (.ref C) (.ref C')=some b∧R (.bl b) G
    | none=>False)
  | _=>False
theorem aBG {G:Gp} {x:D} {C:Addr} (h:exD G x=some C):∃ a,x = .ref a∧G a=some (.exn C):=by
  cases x with
  | ref q =>
    refine ⟨q,rfl,?_⟩
    have h':(match G q with
      | some (.exn C)=>some C
      | _=>none)=some C:=h
    split at h'
    · rename_i e1;cases h';exact e1
    · cases h'
  | _=>cases h
theorem yX {pins:List (Addr×Obj)} {s:Shared} {σ:St} {H:Hp} {a C:Addr} {c:Value} {b:Bool} {G:Gp} {R:oK} {Q:VK} (I:Inv X pins σ H s) (g:HR X.K H G) (e:G a=some (.exn C)) (hc:ExC X.K C) (hk:PySem.W.kitOne X.K (.ref C) c=some b) (q:R (.bl b) G)
    (k:∀ v H' d G',Ts H H'→RD X.K H' d v→HR X.K H' G'→R d G'→Q v H'):wpAny (model X.prog X.w) X.A (call (.builtin "isinstance") [.ref a,c]) (EP X pins σ Q) X.xe s:=by
  obtain ⟨o0,vs0,z,_⟩:=g a _ e
  obtain ⟨_,z1,_,_⟩:=I.hok a _ z
  exact PySem.W.kia_one (aBF hc) I.kIn z1 hk (fun z=>nomatch z) fun tk=>⟨.bl b,H,I.tok tk,rfl,k _ H _ G (.refl H) (.bl b) g q⟩
theorem aNG {pins:List (Addr×Obj)} {s:Shared} {σ:St} {H:Hp} {x:D} {vx:V} {u:Value} {T n:String} {G:Gp} {R:oK} {Q:VK} (I:Inv X pins σ H s) (rx:RD X.K H x vx) (ru:RelV vx u) (g:HR X.K H G) (e:tyD G x=some T) (hn:n∈cV) (q:R (.bl (subB T n)) G)
    (k:∀ v H' d G',Ts H H'→RD X.K H' d v→HR X.K H' G'→R d G'→Q v H'):wpAny (model X.prog X.w) X.A (call (.builtin "isinstance") [u,.type n]) (EP X pins σ Q) X.xe s:=by
  have fin:∀ tk,EP X pins σ Q (.bool (subB T n)) { s with toks:=tk }:=fun tk=>⟨.bl _,H,I.tok tk,rfl,k _ H _ G (.refl H) (.bl _) g q⟩
  cases rx with
  | non=>cases ru;cases e;exact PySem.W.kia_one PySem.W.kitx_none I.kIn True.intro (yW _ (by decide) hn) (fun z=>nomatch z) fin
  | bl b=>cases ru;cases e;exact PySem.W.kia_one PySem.W.kitx_bool I.kIn True.intro (yW _ (by decide) hn) (fun z=>nomatch z) fin
  | int i=>obtain ⟨t,rfl⟩:=ru;cases e;exact PySem.W.kia_one PySem.W.kitx_int I.kIn True.intro (yW _ (by decide) hn) (fun z=>nomatch z) fin
  | str i=>obtain ⟨t,rfl⟩:=ru;cases e;exact PySem.W.kia_one PySem.W.kitx_str I.kIn True.intro (yW _ (by decide) hn) (fun z=>nomatch z) fin
  | ty n=>cases e
  | @tup a xs ds ha ra =>
    cases ru;cases e
    obtain ⟨its,_,p,_⟩:=I.tuple ha
    obtain ⟨o,h1,h2,_⟩:=p
    exact PySem.W.kia_one PySem.W.kitx_tuple I.kIn ⟨o,h1,h2⟩ (yW _ (by decide) hn) (fun z=>nomatch z) fin
  | ref a =>
    cases ru
    have e':(match G a with
      | some (.lst _)=>some "list"
      | some (.rol _)=>some "list"
      | some (.dU _ _)=>some "dict"
      | _=>none)=some T:=e
    split at e'
    · rename_i ds e1
      cases e'
      obtain ⟨xs,h1,_⟩:=gW g (show bZ G a=some ds by unfold bZ;rw [e1])
      obtain ⟨its,_,p,_⟩:=I.list h1
      obtain ⟨o,n',h1,h2,_⟩:=p
      exact PySem.W.kia_one PySem.W.kitx_list I.kIn ⟨o,h1,h2⟩ (yW _ (by decide) hn) (fun z=>nomatch z) fin
    · rename_i ds e1
      cases e'
      obtain ⟨xs,h1,_⟩:=gW g (show bZ G a=some ds by unfold bZ;rw [e1])
      obtain ⟨its,_,p,_⟩:=I.list h1
      obtain ⟨o,n',h1,h2,_⟩:=p
      exact PySem.W.kia_one PySem.W.kitx_list I.kIn ⟨o,h1,h2⟩ (yW _ (by decide) hn) (fun z=>nomatch z) fin
    · rename_i kvs e1
      cases e'
      rcases g a _ e1 with ⟨_,xs,h1,_⟩ | ⟨_,xs,h1,_⟩
      · obtain ⟨_,_,vs,_,o,es,ep,h1,h2,_⟩:=I.hok a _ h1
        exact PySem.W.kia_one PySem.W.kitx_dict I.kIn ⟨o,h1,h2.1⟩ (yW _ (by decide) hn) (fun z=>nomatch z) fin
      · obtain ⟨_,_,xs,_,o,es,ep,h1,h2,_⟩:=I.hok a _ h1
        exact PySem.W.kia_one PySem.W.kitx_dict I.kIn ⟨o,h1,h2.1⟩ (yW _ (by decide) hn) (fun z=>nomatch z) fin
    · cases e'
theorem aoG:fL X (.builtin "isinstance") (aF X.K):=by
  intro pins s σ H xs vs us G R Q I rx rv g q k
  cases rx with
  | nil=>exact False.elim q
  | @cons x v ds ws r1 rr =>
    cases rr with
    | nil=>cases r1 <;> exact False.elim q
    | @cons y v2 ds2 ws2 r2 rr2 =>
      cases rr2 with
      | cons _ _=>cases r2 <;> exact False.elim q
      | nil =>
        obtain ⟨u1,u2,rfl,ru1,ru2⟩:=vals2 rv
        cases r2 with
        | ty n =>
          cases ru2
          have q':(match tyD G x with
            | some T=>n∈cV∧R (.bl (subB T n)) G
            | none=>(match exD G x with
              | some C=>∃ b,ExC X.K C∧PySem.W.kitOne X.K (.ref C) (.type n)=some b∧R (.bl b) G
              | none=>False)):=q
          split at q'
          · rename_i T eT
            exact aNG I r1 ru1 g eT q'.1 q'.2 k
          · split at q'
            · rename_i C eC
              obtain ⟨a,rfl,ea⟩:=aBG eC
              obtain ⟨b,hc,hk,q'⟩:=q'
              cases r1;cases ru1
              exact yX I g ea hc hk q' k
            · exact q'.elim
        | ref C' =>
          cases ru2
          have q':(match exD G x with
            | some C=>∃ b,ExC X.K C∧PySem.W.kitOne X.K (.ref C) (.ref C')=some b∧R (.bl b) G
            | none=>False):=q
          split at q'
          · rename_i C eC
            obtain ⟨a,rfl,ea⟩:=aBG eC
            obtain ⟨b,hc,hk,q'⟩:=q'
            cases r1;cases ru1
            exact yX I g ea hc hk q' k
          · exact q'.elim
        | _=>exact False.elim q
end
end L2
namespace L2
open PySem PySem.Spec PyProof.Rows
theorem aiU {K:Fg} {H:Hp} {x:D} {vx:V} (hx:scD x=true) (rx:RD K H x vx):∀ {ys:List D} {vs:List V},iG K H ys vs→ys.all scD=true→vs.any (fun y=>eqV y vx)=ys.any (fun y=>eqP y x)
  | _,_,.nil,_=>rfl
  | _,_,.cons h r,hs=>by
    rw [List.all_cons,Bool.and_eq_true] at hs
    rw [List.any_cons,List.any_cons,aiU hx rx r hs.2]
    congr 1
    obtain ⟨h1,_⟩:=hs
    cases rx <;> cases h <;> first | (simp [eqV,eqP];done) | cases hx | cases h1
theorem acU {K:Fg} {H:Hp} {x:D} {vx:V} (hx:scD x=true) (rx:RD K H x vx):a6V vx=true:=by cases rx <;> first | rfl | cases hx
theorem a84 {K:Fg} {H:Hp}:∀ {ys:List D} {vs:List V},iG K H ys vs→ys.all scD=true→vs.all a6V=true
  | _,_,.nil,_=>rfl
  | _,_,.cons h r,hs=>by
    rw [List.all_cons,Bool.and_eq_true] at hs
    rw [List.all_cons,acU hs.1 h,a84 r hs.2];rfl
def inG (G:Gp) (x y:D) (k:Bool→Prop):Prop:=match x,y with
  | .str i,.str j=>k (!(Builtin.Str.occurrences j i 0 j.length 1).isEmpty)
  | x,.tup ys=>scD x=true∧ys.all scD=true∧k (ys.any fun y=>eqP y x)
  | x,.ref p=>(match bZ G p with
    | some ys=>scD x=true∧ys.all scD=true∧k (ys.any fun y=>eqP y x)
    | none=>False)
  | _,_=>False
def aNH:R3:=fun x y G R=>inG G x y fun b=>R (.bl b) G
def aoH:R3:=fun x y G R=>inG G x y fun b=>R (.bl (!b)) G
section
variable {X:Cx}
theorem aY7 (hu:X.A.units+64 < cLine):yV X (compareOp .In) aNH:=by
  refine ⟨_,ayH.or ayQ,fun H x y vx vy G R Q rx ry g h k=>?_⟩
  have h':inG G x y fun b=>R (.bl b) G:=h
  unfold inG at h'
  split at h'
  · cases rx;cases ry
    exact .inl ⟨_,_,rfl,rfl,k _ H _ G (.refl H) (.bl _) g h'⟩
  · cases ry with
    | @tup a xs ds ha ra =>
      refine .inr ⟨a,xs,rfl,.inr ha,acU h'.1 rx,a84 ra h'.2.1,?_⟩
      have e:inV vx xs=_:=aiU h'.1 rx ra h'.2.1
      simp only [Bool.false_eq_true,if_false]
      rw [e]
      exact k _ H _ G (.refl H) (.bl _) g h'.2.2
  · cases ry
    split at h'
    · rename_i ys e1
      obtain ⟨xs,hq,ra⟩:=gW g e1
      refine .inr ⟨_,xs,rfl,.inl hq,acU h'.1 rx,a84 ra h'.2.1,?_⟩
      have e:inV vx xs=_:=aiU h'.1 rx ra h'.2.1
      simp only [Bool.false_eq_true,if_false]
      rw [e]
      exact k _ H _ G (.refl H) (.bl _) g h'.2.2
    · exact h'.elim
  · exact h'.elim
theorem aG3 (hu:X.A.units+64 < cLine):yV X (compareOp .NotIn) aoH:=by
  refine ⟨_,anZ.or ao6,fun H x y vx vy G R Q rx ry g h k=>?_⟩
  have h':inG G x y fun b=>R (.bl (!b)) G:=h
  unfold inG at h'
  split at h'
  · cases rx;cases ry
    exact .inl ⟨_,_,rfl,rfl,k _ H _ G (.refl H) (.bl _) g h'⟩
  · cases ry with
    | @tup a xs ds ha ra =>
      refine .inr ⟨a,xs,rfl,.inr ha,acU h'.1 rx,a84 ra h'.2.1,?_⟩
      have e:inV vx xs=_:=aiU h'.1 rx ra h'.2.1
      simp only [if_true]
      rw [e]
      exact k _ H _ G (.refl H) (.bl _) g h'.2.2
  · cases ry
    split at h'
    · rename_i ys e1
      obtain ⟨xs,hq,ra⟩:=gW g e1
      refine .inr ⟨_,xs,rfl,.inl hq,acU h'.1 rx,a84 ra h'.2.1,?_⟩
      have e:inV vx xs=_:=aiU h'.1 rx ra h'.2.1
      simp only [if_true]
      rw [e]
      exact k _ H _ G (.refl H) (.bl _) g h'.2.2
    · exact h'.elim
  · exact h'.elim
def aTB (x:D) (lo hi:Option Int) (G:Gp) (R:oK):Prop:=match x with
  | .tup xs=>¬ (HT.sIx xs.length 0 lo=0∧HT.sIx xs.length xs.length hi=xs.length)∧R (.tup (cutD xs lo hi)) G
  | .str z=>z.length≤sizeLine∧R (.str (Txt.slice z lo hi)) G
  | .ref p=>(match bZ G p with
    | some xs=>∀ q,G q=none→R (.ref q) (aQ G q (.lst (cutD xs lo hi)))
    | none=>False)
  | _=>False
def aG4 (te:dX) (tl th:TO3):dX:=fun ρ G R=>te ρ G fun x G1=>tl ρ G1 fun lo G2=>th ρ G2 fun hi G3=>aTB x lo hi G3 R
def alL (T:String) (G:Gp):D→Prop
  | .str _=>T = "str"
  | .ref p=>T = "list" ∧ (bZ G p).isSome=true
  | _=>False
theorem aBH {K:Fg} {H:Hp} {G:Gp} {T:String} {x:D} {v:V} (g:HR K H G) (r:RD K H x v) (h:alL T G x):tyV K T v H:=by
  cases r with
  | str z=>exact h
  | ref p =>
    obtain ⟨rfl,h⟩:=h
    obtain ⟨ds,e⟩:=Option.isSome_iff_exists.mp h
    obtain ⟨xs,hq,_⟩:=gW g e
    exact .inl ⟨rfl,xs,hq⟩
  | _=>exact False.elim h
abbrev RM3:=D→List D→Gp→oK→Prop
def ahK (X:Cx) (id:String) (r3:RM3):Prop :=
  ∀ (pins:List (Addr×Obj)) (s:Shared) (σ:St) (H:Hp) (x:D) (xs:List D) (vx:V) (vs:List V) (u:Value) (us:List Value) (G:Gp) (R:oK) (Q:VK),Inv X pins σ H s→RD X.K H x vx→iG X.K H xs vs→RelV vx u→Vals vs us→HR X.K H G→r3 x xs G R →
    (∀ v H' d G',Ts H H'→RD X.K H' d v→HR X.K H' G'→R d G'→Q v H')→wpAny (model X.prog X.w) X.A (call (.builtin id) (u :: us)) (EP X pins σ Q) X.xe s
theorem ahK.of {id:String} {r:V→List V→Hp→VK→Prop} {r3:RM3} (h:MtR X id r) (i:∀ (H:Hp) (x:D) (xs:List D) (vx:V) (vs:List V) (G:Gp) (R:oK) (Q:VK),RD X.K H x vx→iG X.K H xs vs→HR X.K H G→r3 x xs G R →
    (∀ v H' d G',Ts H H'→RD X.K H' d v→HR X.K H' G'→R d G'→Q v H')→r vx vs H fun v H'=>KF X.K H'→Q v H'):ahK X id r3:=fun pins s σ H x xs vx vs u us G R Q I rx rs ru rv g q k =>
  kY (h pins s σ H vx vs u us _ I ru rv (i H x xs vx vs G R Q rx rs g q k)) fun _ _ ⟨v,H',I',r,q'⟩=>⟨v,H',I',r,q' (a6X I')⟩
def tM3 (T:String) (r:RM3) (to:dX) (t:zQ):dX:=fun ρ G R=>to ρ G fun x G1=>alL T G1 x∧t ρ G1 fun xs G2=>r x xs G2 R
def aG5 (T:String) (r:RM3) (to:dX):dX:=fun ρ G R=>to ρ G fun x G1=>alL T G1 x∧r x [] G1 R
theorem aNI {o e:Expr} {es:List Expr} {to:dX} {t:zQ} {name:Str} {apos cpos:Pos} {T id:String} {r3:RM3} (pa:PlainAttrs T) (slot:Slot T name id) (hty:typeOf (.builtin id)=pure (.type "method_descriptor")) (hm:ahK X id r3) (ho:gG X o to) (ha:PA3 X (e :: es) t)
    (hbase:attributeBase o name X.env (eval o X.env)=eval o X.env:=by rfl)
    (hfew:((backTo cpos (starEach (e :: es) X.env)).all (fun x=>!x.1)&&(backToKw cpos (keywordEach [] X.env)).all (fun x=>x.1.isSome)
      && decide ((e :: es).length+([]:List Keyword).length+(if ([]:List Keyword).isEmpty then 0 else 1) < 30))=true:=by rfl)
    (hline:(apos.endLine == cpos.line)=true:=by rfl) (hs:starEach (e :: es) X.env=(false,eval e X.env) :: starEach es X.env:=by rfl) (hplain:(backTo cpos (starEach es X.env)).any (·.1)=false:=by rfl) :
    gG X (.Call (.Attribute o name apos) (e :: es) [] cpos) (tM3 T r3 to t):=by
  intro pins s σ H Q I h
  obtain ⟨ρ,G,R,sr,g,q,kk⟩:=h
  refine wpAny_Call_method_late hbase hfew hline rfl (kY (ho pins s σ H (fun vx H1=>Ts H H1∧∃ x G1,RD X.K H1 x vx∧HR X.K H1 G1∧alL T G1 x∧t ρ G1 fun xs G2=>r3 x xs G2 R) I ⟨ρ,G,_,sr,g,q,fun v H1 x G1 t1 r1 g1 q1=>⟨t1,x,G1,r1,g1,q1⟩⟩) fun v s1 ⟨vx,H1,I1,r1,t1,x,G1,rx,g1,ty,q1⟩=>?_)
  obtain ⟨h1,h2⟩:=aB0 I1 r1 (aBH g1 rx ty)
  refine ⟨T,id,pa,slot,hty,h1,h2,?_⟩
  have hA:=ha cpos pins s1 σ H1 (fun vs H2=>Ts H1 H2∧∃ xs G2,iG X.K H2 xs vs∧HR X.K H2 G2∧r3 x xs G2 R) I1 ⟨ρ,G1,_,sr.mono t1,g1,q1,fun vs H2 xs G2 t2 r2 g2 q2=>⟨t2,xs,G2,r2,g2,q2⟩⟩
  rw [hs] at hA ⊢
  refine Calls.callWith_builtin (by show (false || (backTo cpos (starEach es X.env)).any (·.1))=false;rw [hplain] <;> rfl) (Calls.evalArgs_plain ?_)
  exact kY hA fun us s2 ⟨vs,H2,I2,r2,t2,xs,G2,rs,g2,q2⟩=>hm pins s2 σ H2 x xs vx vs v us G2 R Q I2 (rx.mono t2) rs r1 r2 g2 q2 fun v H' d G' t3=>kk v H' d G' ((t1.trans t2).trans t3)
theorem aBI {o:Expr} {to:dX} {name:Str} {apos cpos:Pos} {T id:String} {r3:RM3} (pa:PlainAttrs T) (slot:Slot T name id) (hty:typeOf (.builtin id)=pure (.type "method_descriptor")) (hm:ahK X id r3) (ho:gG X o to)
    (hbase:attributeBase o name X.env (eval o X.env)=eval o X.env:=by rfl) (hline:(apos.endLine == cpos.line)=true:=by rfl):gG X (.Call (.Attribute o name apos) [] [] cpos) (aG5 T r3 to):=by
  intro pins s σ H Q I h
  obtain ⟨ρ,G,R,sr,g,q,kk⟩:=h
  refine wpAny_Call_method0_late hbase hline (kY (ho pins s σ H (fun vx H1=>Ts H H1∧∃ x G1,RD X.K H1 x vx∧HR X.K H1 G1∧alL T G1 x∧r3 x [] G1 R) I ⟨ρ,G,_,sr,g,q,fun v H1 x G1 t1 r1 g1 q1=>⟨t1,x,G1,r1,g1,q1⟩⟩) fun v s1 ⟨vx,H1,I1,r1,t1,x,G1,rx,g1,ty,q1⟩=>?_)
  obtain ⟨h1,h2⟩:=aB0 I1 r1 (aBH g1 rx ty)
  exact ⟨T,id,pa,slot,hty,h1,h2,Calls.callWith_builtin rfl (PySem.evalArgs_none (hm pins s1 σ H1 x [] vx [] v [] G1 R Q I1 rx .nil r1 .nil g1 q1 fun v H' d G' t3=>kk v H' d G' (t1.trans t3)))⟩
def arC:RM3:=fun x xs G R=>match x,xs with
  | .ref p,[d]=>(match G p with
    | some (.lst ds)=>ds.length < sizeLine∧R .non (aQ G p (.lst (ds++[d])))
    | _=>False)
  | _,_=>False
theorem arD:ahK X "list.append" arC:=ahK.of amL fun H x xs vx vs G R Q rx rs g q k=>by
  cases rx with
  | ref p =>
    cases rs with
    | nil=>exact False.elim q
    | @cons d v ds ws r rr =>
      cases rr with
      | cons _ _=>exact False.elim q
      | nil =>
        have q':(match G p with
          | some (.lst ds)=>ds.length < sizeLine∧R .non (aQ G p (.lst (ds++[d])))
          | _=>False):=q
        split at q'
        · rename_i ds e1
          obtain ⟨ys,f1,r1⟩:=g p _ e1
          refine ⟨p,ys,v,rfl,rfl,f1,by rw [← r1.length];exact q'.1,fun _=>?_⟩
          have tt:Ts H (upd H p (.lst (ys++[v]))) := .turn f1 (fun _ z=>nomatch z) (fun _ _ z=>nomatch z)
          exact k _ _ _ _ tt .non (g.turn (u := .lst (ds++[d])) tt ⟨_,aV,(r1.append (.cons r .nil)).mono tt⟩) q'.2
        · exact q'.elim
  | _=>cases rs <;> exact False.elim q
def abR:dX:=fun _ G R=>∀ p,G p=none→R (.ref p) (aQ G p (.dU false []))
theorem aNJ {pos:Pos}:gG X (.Dict [] [] pos) abR:=PE.imp (PE.kf aAW) fun σ H Q h=>by
  obtain ⟨ρ,G,R,s,g,q,k⟩:=h
  intro p hp kf
  have sn:Same H (upd H p (.dK [])):=cU hp
  exact k _ _ _ _ (.same sn) (.ref p) (g.put (u := .dU false []) hp (.inl ⟨rfl,[],aV,.nil⟩)) (q p (tH g hp kf))
def aaB:dX:=fun _ G R=>∀ p,G p=none→R (.ref p) (aQ G p (.dU true []))
theorem aG6 {pos:Pos}:gG X (.Dict [] [] pos) aaB:=PE.imp (PE.kf aAX) fun σ H Q h=>by
  obtain ⟨ρ,G,R,s,g,q,k⟩:=h
  intro p hp kf
  have sn:Same H (upd H p (.dT [])):=cU hp
  exact k _ _ _ _ (.same sn) (.ref p) (g.put (u := .dU true []) hp (.inr ⟨rfl,[],aV,.nil⟩)) (q p (tH g hp kf))
end
end L2
namespace L2
open PySem
theorem o9:bootBuiltins "isinstance" = some (.builtin "isinstance"):=by decide +kernel
theorem aiV:bootBuiltins "len" = some (.builtin "len"):=by decide +kernel
theorem aNK:bootBuiltins "min" = some (.builtin "min"):=by decide +kernel
theorem aNL:bootBuiltins "sum" = some (.builtin "sum"):=by decide +kernel
theorem aaC:bootBuiltins "sorted" = some (.builtin "sorted"):=by decide +kernel
theorem av2:bootBuiltins "int" = some (.type "int"):=by decide +kernel
theorem awX:bootBuiltins "bool" = some (.type "bool"):=by decide +kernel
theorem aiW:bootBuiltins "tuple" = some (.type "tuple"):=by decide +kernel
theorem aG7:bootBuiltins "list" = some (.type "list"):=by decide +kernel
theorem aG8:bootBuiltins "dict" = some (.type "dict"):=by decide +kernel
theorem alM:bootBuiltins "ValueError" = some (.type "ValueError"):=by decide +kernel
end L2
namespace L2
open PySem PySem.Spec PyProof.Rows
def Its (x:Str):It:=⟨fun i _=>i < x.cps.size,fun i H v H'=>H'=H∧∃ c,x.cps[i]?=some c∧v = .str ⟨#[c]⟩,fun i _=>x.cps.size≤i⟩
theorem amU {cm:Bool} {tl:List (Addr×List V)} {P:Program} {w:World} {K:PySem.W.Frag} {tg:Expr} (it:Addr) (x:Str) (t:Tok):Turn cm tl P w K tg (Its x) [it] it (fun i h=>h.IsStrIter it "str_ascii_iterator" x t (min i x.cps.size)) where
  mem:=by simp
  obj:=fun i h st b hb=>by
    have e:b=it:=by simpa using hb
    subst e
    obtain ⟨o,e,c,d⟩:=st
    exact ⟨o,e,fun v z=>by rw [d] at z;cases z⟩
  keep:=fun i h h' st k=>let ⟨o,e,r⟩:=st;⟨o,k it (by simp) o e,r⟩
  item:=by
    intro X hP hw hK hcm ht i pins s σ H E I hf st hg
    subst hP hw hK
    obtain ⟨f0,f1,f2,f3,f4,f5⟩:=hf it (by simp)
    have hi:i < x.cps.size:=hg
    rw [Nat.min_eq_left (Nat.le_of_lt hi)] at st
    refine wpAny_pyNext_ascii_item st (c:=x.cps[i]) (by simp [hi]) fun h' st' kk=>?_
    have I1:Inv X pins σ H { s with heap:=h',toks:=s.toks+1 }:=I.turned (fun b o hb e=>(kk.2 b hb).trans e) f0 f1 f3 f4 f5
    obtain ⟨o,e1,c1,d1⟩:=id st'
    refine ⟨_,rfl,aqR (s:={ s with heap:=h',toks:=s.toks+1 }) e1 c1 d1 (by decide) ⟨.str ⟨#[x.cps[i]]⟩,H,I1,⟨_,rfl⟩,⟨rfl,x.cps[i],by simp [hi],rfl⟩,?_,fun b hb=>(hf b hb).1⟩⟩
    rw [Nat.min_eq_left hi]
    exact st'
  done:=by
    intro X hP hw hK hcm ht i pins s σ H E I hf st hg
    subst hP hw hK
    obtain ⟨f0,f1,f2,f3,f4,f5⟩:=hf it (by simp)
    have hi:x.cps.size≤i:=hg
    rw [Nat.min_eq_right hi] at st
    exact ay9 (I.hnd.heap I.hok) st (by simp) fun h' eb=>⟨rfl,I.turned (t':=s.toks) (fun b o hb e=>eb b o hb e) f0 f1 f3 f4 f5⟩
  self:=fun _ _ _ _ _ st h=>wpAny_pyIter_striter_ascii st h
theorem amV {cm:Bool} {tl:List (Addr×List V)} {P:Program} {w:World} {K:PySem.W.Frag} {tg:Expr} (it:Addr) (x:Str) (t:Tok):Turn cm tl P w K tg (Its x) [it] it (fun i h=>h.IsStrIter it "str_iterator" x t (min i x.cps.size)) where
  mem:=by simp
  obj:=fun i h st b hb=>by
    have e:b=it:=by simpa using hb
    subst e
    obtain ⟨o,e,c,d⟩:=st
    exact ⟨o,e,fun v z=>by rw [d] at z;cases z⟩
  keep:=fun i h h' st k=>let ⟨o,e,r⟩:=st;⟨o,k it (by simp) o e,r⟩
  item:=by
    intro X hP hw hK hcm ht i pins s σ H E I hf st hg
    subst hP hw hK
    obtain ⟨f0,f1,f2,f3,f4,f5⟩:=hf it (by simp)
    have hi:i < x.cps.size:=hg
    rw [Nat.min_eq_left (Nat.le_of_lt hi)] at st
    refine wpAny_pyNext_wide_item st (c:=x.cps[i]) (by simp [hi]) fun h' st' kk=>?_
    have I1:Inv X pins σ H { s with heap:=h',toks:=s.toks+1 }:=I.turned (fun b o hb e=>(kk.2 b hb).trans e) f0 f1 f3 f4 f5
    obtain ⟨o,e1,c1,d1⟩:=id st'
    refine ⟨_,rfl,aqR (s:={ s with heap:=h',toks:=s.toks+1 }) e1 c1 d1 (by decide) ⟨.str ⟨#[x.cps[i]]⟩,H,I1,⟨_,rfl⟩,⟨rfl,x.cps[i],by simp [hi],rfl⟩,?_,fun b hb=>(hf b hb).1⟩⟩
    rw [Nat.min_eq_left hi]
    exact st'
  done:=by
    intro X hP hw hK hcm ht i pins s σ H E I hf st hg
    subst hP hw hK
    obtain ⟨f0,f1,f2,f3,f4,f5⟩:=hf it (by simp)
    have hi:x.cps.size≤i:=hg
    rw [Nat.min_eq_right hi] at st
    exact ayA (I.hnd.heap I.hok) st (by simp) fun h' eb=>⟨rfl,I.turned (t':=s.toks) (fun b o hb e=>eb b o hb e) f0 f1 f3 f4 f5⟩
  self:=fun _ _ _ _ _ st h=>wpAny_pyIter_striter_wide st h
inductive Src where
  | lst (p:Addr) (xs:List D) | imm (xs:List D) | zip (p q:Addr) (xs ys:List D)
def prs (xs ys:List D):List D:=(xs.zip ys).map fun z => .tup [z.1,z.2]
def Src.items:Src→List D
  | .lst _ xs=>xs
  | .imm xs=>xs
  | .zip _ _ xs ys=>prs xs ys
def Src.ok (G:Gp):Src→Prop
  | .lst p xs=>bZ G p=some xs
  | .imm _=>True
  | .zip p q xs ys=>bZ G p=some xs∧bZ G q=some ys
def av3 (K:Fg) (H1:Hp) (src:Src) (J:It):Prop:=∀ H2 G2,Ts H1 H2→HR K H2 G2→src.ok G2 →
  (∀ i,i < src.items.length→J.go i H2)∧(∀ i v H',i < src.items.length→J.yld i H2 v H'→Same H2 H'∧∃ d,src.items[i]?=some d∧RD K H' d v)∧J.stop src.items.length H2
abbrev TI3:=aY→Gp→(Src→Gp→Prop)→Prop
def upI (K:Fg) (t:TI3):TI:=fun σ H Q=>∃ ρ G R,SR K H ρ σ∧HR K H G∧t ρ G R∧∀ src J H' G',Ts H H'→HR K H' G'→av3 K H' src J→R src G'→Q J H'
abbrev PI3 (X:Cx) (tg iter:Expr) (t:TI3):Prop:=PI X tg iter (upI X.K t)
def signs (z:Str):List D:=z.cps.toList.map fun c => .str ⟨#[c]⟩
def aiX (te:dX):TI3:=fun ρ G R=>te ρ G fun x G1=>match x with
  | .ref p=>(match bZ G1 p with
    | some xs=>R (.lst p xs) G1
    | none=>False)
  | .tup xs=>R (.imm xs) G1
  | .str z=>R (.imm (signs z)) G1
  | _=>False
theorem amW {K:Fg} {H1:Hp} {p:Addr} {xs:List D}:av3 K H1 (.lst p xs) (Itl K p):=fun H2 G2 t g ok=>by
  obtain ⟨vs,hq,rv⟩:=gW g (show bZ G2 p=some xs from ok)
  refine ⟨fun i hi=>?_,fun i v H' hi hy=>?_,⟨vs,hq,Nat.le_of_eq rv.length.symm⟩⟩
  · have hi':i < xs.length:=hi
    obtain ⟨y,e1,_⟩:=rv.get (List.getElem?_eq_getElem hi')
    exact ⟨vs,y,hq,e1⟩
  · obtain ⟨rfl,hy⟩:=hy
    obtain ⟨d,e1,e2⟩:=rv.aFP (hy vs hq)
    exact ⟨.refl _,d,e1,e2⟩
theorem aBJ {K:Fg} {H1:Hp} {a:Addr} {vs:List V} {xs:List D} (hq:SqT K H1 a vs) (rv:iG K H1 xs vs):av3 K H1 (.imm xs) (Itt K a):=fun H2 G2 t g ok=>by
  have hq2:=t.sqT hq
  have rv2:=rv.mono t
  refine ⟨fun i hi=>?_,fun i v H' hi hy=>?_,⟨vs,hq2,Nat.le_of_eq rv.length.symm⟩⟩
  · have hi':i < xs.length:=hi
    obtain ⟨y,e1,_⟩:=rv2.get (List.getElem?_eq_getElem hi')
    exact ⟨vs,y,hq2,e1⟩
  · obtain ⟨rfl,hy⟩:=hy
    obtain ⟨d,e1,e2⟩:=rv2.aFP (hy vs hq2)
    exact ⟨.refl _,d,e1,e2⟩
theorem aiY {K:Fg} {H1:Hp} {z:Str}:av3 K H1 (.imm (signs z)) (Its z):=fun H2 G2 t g ok=>by
  have hl:(signs z).length=z.cps.size:=by simp [signs]
  refine ⟨fun i hi=>?_,fun i v H' hi hy=>?_,?_⟩
  · have:i < (signs z).length:=hi
    rw [hl] at this
    exact this
  · obtain ⟨rfl,c,hc,rfl⟩:=hy
    exact ⟨.refl _,.str ⟨#[c]⟩,by simp [Src.items,signs,hc],.str _⟩
  · show z.cps.size≤(signs z).length
    rw [hl];exact Nat.le_refl _
theorem arE {K:Fg} {H1:Hp} {lo:Int} {n:Nat}:av3 K H1 (.imm ((List.range n).map fun (i:Nat) => .int (lo+(i:Int)))) (Itr lo n):=fun H2 G2 t g ok=>by
  refine ⟨fun i hi=>?_,fun i v H' hi hy=>?_,?_⟩
  · have hi':i < n:=by simpa [Src.items] using hi
    exact hi'
  · obtain ⟨rfl,rfl⟩:=hy
    have hi':i < n:=by simpa [Src.items] using hi
    exact ⟨.refl _,.int (lo+i),by simp [Src.items,hi'],.int _⟩
  · show n≤_
    simp [Src.items]
section
variable {X:Cx} {tg:Expr}
theorem PI.imp {e:Expr} {t t':TI} (h:PI X tg e t) (k:∀ σ H Q,t' σ H Q→t σ H Q):PI X tg e t':=fun pins s σ H Q I q=>h pins s σ H Q I (k _ _ _ q)
theorem aTD {l:Expr} {te:dX} (hl:gG X l te):PI3 X tg l (aiX te):=by
  intro pins s σ H R I h
  obtain ⟨ρ,G,R3,sr,g,q,k⟩:=h
  refine kY (hl pins s σ H (fun v H1=>Ts H H1∧∃ x G1,RD X.K H1 x v∧HR X.K H1 G1∧(match x with
    | .ref p=>(match bZ G1 p with
      | some xs=>R3 (.lst p xs) G1
      | none=>False)
    | .tup xs=>R3 (.imm xs) G1
    | .str z=>R3 (.imm (signs z)) G1
    | _=>False)) I ⟨ρ,G,_,sr,g,q,fun v H1 x G1 t1 r g1 q1=>⟨t1,x,G1,r,g1,q1⟩⟩) fun v s1 ⟨x,H1,I1,r1,t1,d,G1,rd,g1,q1⟩=>?_
  cases rd with
  | ref a =>
    have q1':(match bZ G1 a with
      | some xs=>R3 (.lst a xs) G1
      | none=>False):=q1
    split at q1'
    · rename_i xs e
      cases r1
      obtain ⟨vs,hq,rv⟩:=gW g1 e
      obtain ⟨its,rv',p,hz⟩:=I1.list hq
      refine wpAny_pyIter_list p.isList ?_
      refine ⟨s1.heap.objs.size,[s1.heap.objs.size],_,_,H1,rfl,I1.kept (t':=s1.toks) fun b o e=>Heap.get?_push_of_some _ e,amC a _,⟨_,Heap.get?_push_size _ rfl,rfl,rfl⟩,fun b hb=>?_,k _ _ H1 G1 t1 g1 amW q1'⟩
      have e:b=s1.heap.objs.size:=by simpa using hb
      subst e
      exact I1.aqQ (Nat.le_refl _) (I1.hok.fresh (Nat.le_refl _))
    · exact q1'.elim
  | @tup a vs xs hq rv =>
    cases r1
    obtain ⟨its,rv',p,hz⟩:=I1.tuple hq
    refine wpAny_pyIter_tuple (show s1.heap.IsTuple a its.toArray from p) ?_
    refine ⟨s1.heap.objs.size,[s1.heap.objs.size],_,_,H1,rfl,I1.kept (t':=s1.toks) fun b o e=>Heap.get?_push_of_some _ e,auK a _,⟨_,Heap.get?_push_size _ rfl,rfl,rfl⟩,fun b hb=>?_,k _ _ H1 G1 t1 g1 (aBJ hq rv) q1⟩
    have e:b=s1.heap.objs.size:=by simpa using hb
    subst e
    exact I1.aqQ (Nat.le_refl _) (I1.hok.fresh (Nat.le_refl _))
  | str z =>
    obtain ⟨t,rfl⟩:=r1
    cases ha:z.cps.all (· < 128)
    · refine wpAny_pyIter_wide ha ?_
      refine ⟨s1.heap.objs.size,[s1.heap.objs.size],_,_,H1,rfl,I1.kept (t':=s1.toks) fun b o e=>Heap.get?_push_of_some _ e,amV _ z t,?_,fun b hb=>?_,k _ _ H1 G1 t1 g1 aiY q1⟩
      · rw [Nat.zero_min];exact ⟨_,Heap.get?_push_size _ rfl,rfl,rfl⟩
      · have e:b=s1.heap.objs.size:=by simpa using hb
        subst e
        exact I1.aqQ (Nat.le_refl _) (I1.hok.fresh (Nat.le_refl _))
    · refine wpAny_pyIter_ascii ha ?_
      refine ⟨s1.heap.objs.size,[s1.heap.objs.size],_,_,H1,rfl,I1.kept (t':=s1.toks) fun b o e=>Heap.get?_push_of_some _ e,amU _ z t,?_,fun b hb=>?_,k _ _ H1 G1 t1 g1 aiY q1⟩
      · rw [Nat.zero_min];exact ⟨_,Heap.get?_push_size _ rfl,rfl,rfl⟩
      · have e:b=s1.heap.objs.size:=by simpa using hb
        subst e
        exact I1.aqQ (Nat.le_refl _) (I1.hok.fresh (Nat.le_refl _))
  | _=>exact q1.elim
def arF (lo hi:Int):List D:=(List.range (hi - lo).toNat).map fun (i:Nat) => .int (lo+(i:Int))
def aiZ (ta:zQ):TI3:=fun ρ G R=>ta ρ G fun xs G1=>match xs with
  | [.int j]=>-(2 ^ 62)≤j∧j < 2 ^ 62∧R (.imm (arF 0 j)) G1
  | _=>False
def aNN (ta:zQ):TI3:=fun ρ G R=>ta ρ G fun xs G1=>match xs with
  | [.int i,.int j]=>(-(2 ^ 62)≤i∧i < 2 ^ 62∧-(2 ^ 62)≤j∧j < 2 ^ 62)∧R (.imm (arF i j)) G1
  | _=>False
theorem aNO {a:Expr} {ta:zQ} {p pos:Pos} (hg:Gl X "range") (hm:X.mg "range" = none) (ha:PA3 X [a] ta) (hs:starEach [a] X.env=[(false,eval a X.env)]):PI3 X tg (.Call (.Name "range" p) [a] [] pos) (aiZ ta) :=
  PI.imp (amD hg hm ha hs) fun σ H Q h=>by
  obtain ⟨ρ,G,R,s,g,q,k⟩:=h
  refine ⟨ρ,G,_,s,g,q,fun vs H1 ds G1 t1 r g1 h1=>?_⟩
  cases r with
  | nil=>exact h1.elim
  | cons r rr =>
    cases rr with
    | cons _ _=>cases r <;> exact False.elim h1
    | nil =>
      cases r with
      | int j =>
        obtain ⟨l1,l2,h1⟩:=h1
        refine ⟨j,rfl,l1,l2,k _ _ H1 G1 t1 g1 ?_ h1⟩
        unfold arF
        rw [show (j - 0).toNat=j.toNat by omega]
        exact arE
      | _=>exact False.elim h1
end
end L2
namespace L2
open PySem PySem.Spec PyProof.Rows
def zR (cells:List (Str×Addr)):List (Str×NameKind)→List (Str×Addr)→List (Str×Addr)
  | [],cs=>cs
  | (n,k) :: r,cs=>zR cells r (if k = .free then (match cells.lookup n with
    | some a=>(n,a) :: cs
    | none=>cs) else cs)
theorem aeV {scope:Scope} {env:Env} (h:∀ y∈scope.names,y.2 = .free→∃ c,env.cells.lookup y.1=some c):closureFor scope env=pure (zR env.cells scope.names []):=by
  unfold closureFor
  have all:∀ (l:List (Str×NameKind)) (cs:List (Str×Addr)),(∀ y∈l,y.2 = .free→∃ c,env.cells.lookup y.1=some c) →
      (forIn l cs fun (x:Str×NameKind) (r:List (Str×Addr))=>(if (x.2 == NameKind.free)=true then do
        let a ← cellOf env x.1
        pure (ForInStep.yield ((x.1,a) :: r)) else pure (ForInStep.yield r):Sem (ForInStep (List (Str×Addr)))))=(pure (zR env.cells l cs):Sem (List (Str×Addr))):=by
    intro l
    induction l with
    | nil=>intro cs _;rfl
    | cons y r ih =>
      intro cs hl
      obtain ⟨n,k⟩:=y
      rw [List.forIn_cons]
      by_cases hk:k = .free
      · subst hk
        obtain ⟨c,hc⟩:=hl (n,.free) (by simp) rfl
        have e:cellOf env n=pure c:=by unfold cellOf;rw [hc]
        simp only [beq_self_eq_true,if_true,e]
        show (forIn r ((n,c) :: cs) _:Sem _)=_
        rw [ih _ fun y hy=>hl y (by simp [hy])]
        simp only [zR,if_true,hc]
      · have hk':(k == NameKind.free)=false:=by simpa using hk
        simp only [hk',Bool.false_eq_true,if_false]
        show (forIn r cs _:Sem _)=_
        rw [ih _ fun y hy=>hl y (by simp [hy])]
        simp only [zR,if_neg hk]
  have z:=all scope.names [] h
  exact congrArg (fun m=>m >>= fun cs=>pure cs) z
theorem sW {cells:List (Str×Addr)}:∀ {l:List (Str×NameKind)} {cs:List (Str×Addr)} {y:Str} {c:Addr},(zR cells l cs).lookup y=some c→(∀ c,cs.lookup y=some c→cells.lookup y=some c)→cells.lookup y=some c
  | [],cs,y,c,h,k=>k c h
  | (n,kd) :: r,cs,y,c,h,k=>by
    unfold zR at h
    refine sW h fun c' h'=>?_
    by_cases hk:kd = .free
    · rw [if_pos hk] at h'
      split at h'
      · rename_i a ha
        rw [List.lookup_cons] at h'
        split at h'
        · rename_i e
          have e':y=n:=beq_iff_eq.mp e
          subst e'
          rw [ha];exact h'
        · exact k c' h'
      · exact k c' h'
    · rw [if_neg hk] at h'
      exact k c' h'
theorem aj0 {cells:List (Str×Addr)}:∀ {l:List (Str×NameKind)} {cs:List (Str×Addr)} {y:Str},(∃ c,cs.lookup y=some c)→∃ c,(zR cells l cs).lookup y=some c
  | [],cs,y,h=>h
  | (n,kd) :: r,cs,y,h=>by
    unfold zR
    refine aj0 ?_
    by_cases hk:kd = .free
    · rw [if_pos hk]
      split
      · rw [List.lookup_cons]
        split
        · exact ⟨_,rfl⟩
        · exact h
      · exact h
    · rw [if_neg hk];exact h
theorem aeW {cells:List (Str×Addr)} {y:Str} {c:Addr} (hc:cells.lookup y=some c):∀ {l:List (Str×NameKind)} {cs:List (Str×Addr)},(y,NameKind.free)∈l→∃ c,(zR cells l cs).lookup y=some c
  | [],cs,h=>by simp at h
  | (n,kd) :: r,cs,h=>by
    unfold zR
    rcases List.mem_cons.mp h with e | h
    · cases e
      refine aj0 ?_
      rw [if_pos rfl,hc]
      simp
    · exact aeW hc h
theorem mem_of_lookup {α:Type}:∀ {l:List (Str×α)} {y:Str} {k:α},l.lookup y=some k→(y,k)∈l
  | [],_,_,h=>by simp at h
  | (n,kd) :: r,y,k,h=>by
    rw [List.lookup_cons] at h
    split at h
    · rename_i e
      have e':y=n:=beq_iff_eq.mp e
      cases h;subst e';simp
    · exact List.mem_cons_of_mem _ (mem_of_lookup h)
structure abS (X:Cx) (xs:List Str) (scope:Scope):Prop where
  kind:scope.kind = .function
  av4:∀ y∈scope.names,y.2 ≠ .cell
  locs:∀ y∈scope.names,y.2 = .local→scope.names.lookup y.1=some .local
  var:∀ x∈xs,scope.names.lookup x=some .local
  frees:∀ y∈scope.names,y.2 = .free→X.env.kindOf y.1=some .cell∨X.env.kindOf y.1=some .free
  out:∀ x∈xs,x ∉ X.N
  nd:xs.Nodup
  only:∀ y∈X.N,scope.names.lookup y≠some .local
abbrev a2N (X:Cx) (xs:List Str) (scope:Scope) (C:Addr) (s₃:Shared) (H₃:Hp) (fp:List Addr) (pins:List (Addr×Obj)):Cx :=
  { X with N:=xs++X.N,s₀:=s₃,H₀:=H₃,env:=compEnvC scope (zR X.env.cells scope.names []) C X.env,outer:=X.stack,stack:=X.stack,ex:=fp,fn:=fun _=>false,pn:=X.pn++pins,xe:=fun _ _=>False }
def nn (xs:List Str) (σ:St):St:=xs.map (fun _=>none)++σ
theorem aBK {xs:List Str} {σ:St} {i:Nat} {v:V} (h:(nn xs σ)[i]?=some (some v)):∃ j,i=xs.length+j∧σ[j]?=some (some v):=by
  unfold nn at h
  by_cases c:i < xs.length
  · rw [List.getElem?_append_left (by simpa using c)] at h
    simp at h
  · rw [List.getElem?_append_right (by simpa using c)] at h
    exact ⟨i - xs.length,by omega,by simpa using h⟩
theorem awY {α:Type} {xs ys:List α} {j:Nat}:(xs++ys)[xs.length+j]?=ys[j]?:=by
  rw [List.getElem?_append_right (by omega)]
  congr 1
  omega
theorem m8 {env:Env} {y:Str} {k:NameKind}:∀ {names:List (Str×NameKind)},(names.map fun (n,k)=>if (k == .free&&env.scope.kind == .function&&env.kindOf n == some .cell) then (n,.cell) else (n,k)).lookup y=some k →
    ∃ k',names.lookup y=some k'∧(k=k'∨(k = .cell∧k' = .free))
  | [],h=>by simp at h
  | (n,kd) :: r,h=>by
    rw [List.map_cons] at h
    by_cases hc:(kd == .free&&env.scope.kind == .function&&env.kindOf n == some .cell)=true
    · have h':List.lookup y ((n,NameKind.cell) :: (r.map fun (n,k)=>if (k == .free&&env.scope.kind == .function&&env.kindOf n == some .cell) then (n,.cell) else (n,k)))=some k:=by
        simp only [hc,if_true] at h;exact h
      rw [List.lookup_cons] at h' ⊢
      cases hx:y == n with
      | true =>
        rw [hx] at h'
        cases h'
        refine ⟨kd,rfl,.inr ⟨rfl,?_⟩⟩
        simp only [Bool.and_eq_true,beq_iff_eq] at hc
        exact hc.1.1
      | false =>
        rw [hx] at h'
        exact m8 h'
    · have h':List.lookup y ((n,kd) :: (r.map fun (n,k)=>if (k == .free&&env.scope.kind == .function&&env.kindOf n == some .cell) then (n,.cell) else (n,k)))=some k:=by
        simp only [hc,if_false] at h
        exact h
      rw [List.lookup_cons] at h' ⊢
      cases hx:y == n with
      | true =>
        rw [hx] at h'
        cases h'
        exact ⟨_,rfl,.inl rfl⟩
      | false =>
        rw [hx] at h'
        exact m8 h'
end L2
namespace L2
open PySem PySem.Spec PyProof.Rows
section
variable {X:Cx} {xs:List Str} {scope:Scope} {C:Addr} {pins:List (Addr×Obj)} {σ:St} {H H₃:Hp} {s s₃:Shared} {fp:List Addr}
theorem aoK (I:Inv X pins σ H s) {b:Addr} (hb:b∈frs X.stack):b=X.env.locals∨b∈X.fs:=List.mem_cons.mp (I.auJ b hb)
theorem aNP (I:Inv X pins σ H s) (c:abS X xs scope) (hC:s.heap.objs.size≤C) (hf:∀ b∈fp,ahH X pins H b∧b < s.heap.objs.size):(a2N X xs scope C s H fp pins).Ok where
  mod:=I.ok.mod
  kind:=c.kind
  glob:=I.ok.glob
  blt:=I.ok.blt
  above:=hC
  inj:=fun y z d h1 h2=>I.ok.inj y z d (sW h1 fun _ h=>by simp at h) (sW h2 fun _ h=>by simp at h)
  has:=fun y h=>by
    have hy:(y,NameKind.free)∈scope.names:=by
      rcases h with h | h
      · obtain ⟨k',e,z⟩:=m8 (env:=X.env) (names:=scope.names) h
        rcases z with z | ⟨_,z⟩
        · subst z
          exact absurd rfl (c.av4 _ (mem_of_lookup e))
        · subst z;exact mem_of_lookup e
      · obtain ⟨k',e,z⟩:=m8 (env:=X.env) (names:=scope.names) h
        rcases z with z | ⟨z,_⟩
        · subst z;exact mem_of_lookup e
        · cases z
    obtain ⟨d,hd⟩:=I.ok.has y (c.frees _ hy rfl)
    exact aeW hd hy
  cab:=fun _ _ h=>absurd h (by simp)
  hd:=I.ok.hd
  frames:=I.ok.frames
  stk := .inl rfl
  exf:=fun b hb=>by
    obtain ⟨⟨f0,f1,f2,f3,f4,f5⟩,lt⟩:=hf b hb
    exact ⟨Nat.ne_of_lt (Nat.lt_of_lt_of_le lt hC),fun y d h=>f4 y d (sW h fun _ h=>by simp at h)⟩
  bs:=fun b o e=>I.bs b o e
  bsz:=Nat.le_trans I.ok.bsz I.sz
  alE:=fun b o e hb=>by
    obtain ⟨⟨f0,f1,f2,f3,f4,f5⟩,lt⟩:=hf b hb
    rcases f3 with z | z
    · exact I.ok.alE b o e z
    · exact absurd (Nat.lt_of_lt_of_le (Heap.lt_size e) (Nat.le_trans I.ok.bsz z)) (Nat.lt_irrefl _)
  anT:=fun b hb hs=>by
    obtain ⟨⟨f0,f1,f2,f3,f4,f5⟩,lt⟩:=hf b hb
    rcases aoK I hs with z | z
    · exact f1 z
    · exact f2 z
  a4V:=I.stack
  frf:=fun b hb=>I.anU b hb
theorem aNQ (I:Inv X pins σ H s) (c:abS X xs scope) (hC:s.heap.objs.size=C) (hf:∀ b∈fp,ahH X pins H b∧b < s.heap.objs.size) {h₁:Heap} {m:Str→Option Value} {tk:Nat} (hn:h₁.Ns C m) (hk:∀ b o,s.heap.get? b=some o→h₁.get? b=some o) :
    Inv (a2N X xs scope C s H fp pins) [] (nn xs σ) H { s with heap:=h₁,toks:=tk }:=by
  have lt:∀ b o,s.heap.get? b=some o→b≠C:=fun b o e=>by rw [← hC];exact Nat.ne_of_lt (Heap.lt_size e)
  refine ⟨aNP I c (Nat.le_of_eq hC) hf,rfl,I.bare,Un.kept hk,⟨m,hn,fun i y v e1 e2 e3=>?_⟩,fun y d e=>?_,I.hok.fresh (Nat.le_of_eq hC),fun y d e=>I.wL y d (sW e fun _ h=>by simp at h),fun p hp=>?_,I.hok.kept hk,by simp [nn,I.len],I.hnd,I.tup⟩
  · obtain ⟨i,rfl,e2'⟩:=aBK e2
    · have e1':X.N[i]?=some y:=awY.symm.trans e1
      have hy:y∈X.N:=List.mem_of_getElem? e1'
      have free:(y,NameKind.free)∈scope.names:=by
        have e3':∃ k,(relabel scope X.env).names.lookup y=some k∧(k = .local∨k = .cell∨k = .free):=by
          rcases e3 with h | h | h
          · exact ⟨_,h,.inl rfl⟩
          · exact ⟨_,h,.inr (.inl rfl)⟩
          · exact ⟨_,h,.inr (.inr rfl)⟩
        obtain ⟨k,h,hk⟩:=e3'
        obtain ⟨k',e,z⟩:=m8 (env:=X.env) (names:=scope.names) h
        rcases z with z | ⟨_,z⟩
        · subst z
          rcases hk with rfl | rfl | rfl
          · exact absurd e (c.only y hy)
          · exact absurd rfl (c.av4 _ (mem_of_lookup e))
          · exact mem_of_lookup e
        · subst z;exact mem_of_lookup e
      have hkd:=c.frees _ free rfl
      obtain ⟨m',hn',hlo⟩:=I.loc
      have vis:Vis X.env.scope y:=hkd.elim (fun z => .inr (.inl z)) fun z => .inr (.inr z)
      obtain ⟨u,r,l⟩:=hlo i y v e1' e2' vis
      refine ⟨u,r,.inr ⟨?_,?_⟩⟩
      · rcases e3 with h | h | h
        · obtain ⟨k',e,z⟩:=m8 (env:=X.env) (names:=scope.names) h
          rcases z with z | ⟨z,_⟩
          · subst z;exact absurd e (c.only y hy)
          · cases z
        · exact .inl h
        · exact .inr h
      · rcases l with ⟨hl,_⟩ | ⟨_,d,hd,hcell⟩
        · rcases hkd with z | z
          · rw [z] at hl;cases hl
          · rw [z] at hl;cases hl
        · obtain ⟨d',hd'⟩:=aeW (cells:=X.env.cells) (l:=scope.names) (cs:=[]) hd free
          have:=sW hd' fun _ h=>by simp at h
          rw [hd] at this;cases this
          refine ⟨d,hd',?_⟩
          obtain ⟨o,ho,hod⟩:=hcell
          exact ⟨o,hk _ _ ho,hod⟩
  · obtain ⟨w,o,ho,hod⟩:=I.cell y d (sW e fun _ h=>by simp at h)
    exact ⟨w,o,hk _ _ ho,hod⟩
  · have hp':p∈X.pn++pins:=by simpa using hp
    obtain ⟨e,n,ne,nf,d⟩:=I.pin p hp'
    refine ⟨hk _ _ e,n,lt _ _ e,fun z=>?_,d⟩
    rcases aoK I z with z | z
    · exact ne z
    · exact nf z
theorem aG9 (I:Inv X pins σ H s) (hC:s.heap.objs.size=C) (hf:∀ b∈fp,ahH X pins H b∧b < s.heap.objs.size) {acM:List (Addr×Obj)} {σ':St} {H':Hp} {s':Shared} {h':Heap} {tk:Nat} (J:Inv (a2N X xs scope C s H fp pins) acM σ' H' s') (hs:Heap.SameBut C s'.heap h') :
    Inv X pins σ H' { s' with heap:=h',toks:=tk }:=by
  have ne:∀ b o,s.heap.get? b=some o→b≠C:=fun b o e=>by rw [← hC];exact Nat.ne_of_lt (Heap.lt_size e)
  have u:Un (frs X.stack) fp H H' s.heap s'.heap:=J.base
  have hfree:H' C=none:=J.free
  refine I.call' (ch:=fp) J.os ⟨fun b o e n hb hx=>?_,fun b o e n hb hx=>?_,u.free,fun b o e hx=>?_,u.tups,u.tG,u.a4U⟩ (fun b o e=>?_) J.bare (fun b hb=>?_)
  · exact (hs.2 b (ne b o e)).trans (u.keep b o e n hb hx)
  · obtain ⟨sl,e1⟩:=u.slot b o e n hb hx
    exact ⟨sl,(hs.2 b (ne b o e)).trans e1⟩
  · obtain ⟨o',e1⟩:=u.there b o e hx
    exact ⟨o',(hs.2 b (ne b o e)).trans e1⟩
  · refine (J.hok b o e).stay (fun d w hd q=>(hs.2 d ?_).trans q) (fun _ q=>q) fun _ _ q=>q
    rintro rfl
    rcases hd with z | z
    · rw [z] at hfree;rw [e] at hfree;cases hfree
    · rw [hfree] at z;cases z
  · obtain ⟨⟨f0,f1,f2,f3,f4,f5⟩,lt⟩:=hf b hb
    exact ⟨f3,f1,f4,f5⟩
end
end L2
namespace L2
open PySem PySem.Spec PyProof.Rows
def aBL:TT3:=fun _ G R=>R true G
def aBM (X:Cx) (ifs:List Expr) (tc:TT3):Prop :=
  ∀ (pins:List (Addr×Obj)) (s:Shared) (σ:St) (H:Hp) (Q:Bool→Hp→Prop),Inv X pins σ H s→upT X.K tc σ H Q →
    wpAny (model X.prog X.w) X.A (forIn ifs true fun c r=>if r=true then do let ok ← isTrue c X.env (eval c X.env);pure (ForInStep.yield ok) else pure (ForInStep.yield r)) (TP X pins σ Q) X.xe s
theorem aGA {X:Cx}:aBM X [] aBL:=fun pins s σ H Q I h=>by
  obtain ⟨ρ,G,R,sr,g,q,k⟩:=h
  exact wpAny_pure ⟨H,I,k true H G (.refl H) g q⟩
theorem aGB {X:Cx} {c:Expr} {tc:TT3} (hc:PT3 X c tc):aBM X [c] tc:=fun pins s σ H Q I h=>by
  rw [List.forIn_cons]
  simp only [if_true]
  refine wpAny_bind (wpAny_bind (kY (hc pins s σ H Q I h) fun b s1 q=>?_))
  exact wpAny_pure (wpAny_pure q)
section
variable {X:Cx} {x:Str} {xs:List Str} {tgt:Expr} {dv:D→Option (List D)} {scope:Scope} {iter elt:Expr} {ifs:List Expr} {px pos:Pos} {ti:TI3} {tc:TT3} {te:dX}
structure aNR (X:Cx) (pins:List (Addr×Obj)) (H':Hp) (C:Addr) (h:Heap):Prop where
  ns:∃ m,h.Ns C m
  free:H' C=none
  loc:C≠X.env.locals
  young:X.s₀.heap.objs.size≤C
  cells:∀ y d,X.env.cells.lookup y=some d→d≠C
  pins:∀ p∈X.pn++pins,p.1≠C
theorem aNR.turn {X:Cx} {pins:List (Addr×Obj)} {σ:St} {H':Hp} {C:Addr} {s:Shared} (o:aNR X pins H' C s.heap) (I:Inv X pins σ H' s) {h':Heap} (hs:Heap.SameBut C s.heap h'):Inv X pins σ H' { s with heap:=h' } :=
  I.turned (t':=s.toks) (fun b ob hb e=>(hs.2 b hb).trans e) o.free o.loc (.inr o.young) o.cells o.pins
def aNS (Y:Cx) (tgt:Expr) (xs:List Str) (dv:D→Option (List D)) (σ:St):Prop:=∀ (pins:List (Addr×Obj)) (s:Shared) (H:Hp) (v:V) (u:Value) (d:D) (ds:List D),Inv Y pins (nn xs σ) H s→RelV v u→RD Y.K H d v→dv d=some ds →
  wpAny (model Y.prog Y.w) Y.A (assign tgt Y.env u) (fun _ s'=>∃ vs,iG Y.K H ds vs∧Inv Y pins (vs.map some++σ) H s') Y.xe s
theorem aBN {K:Fg} {H:Hp} {ρ:aY} {σ:St} (s:SR K H ρ σ):∀ {ds:List D} {vs:List V},iG K H ds vs→SR K H (ds.map some++ρ) (vs.map some++σ)
  | _,_,.nil=>s
  | _,_,.cons h r => .some h (aBN s r)
theorem aBO {prog:Program} {w:World} {A:Around} {R:Result→Shared→Prop} {s:Shared} {elt target iter:Expr} {ifs:List Expr} {scope:Scope} {pos:Pos} {it acc:Value} {env:Env} (J:Nat→Shared→Prop)
    (turn:∀ n s,J n s→wpAny (model prog w) A (pyNext it) (fun r s1=>match r with
      | none=>R (.ok .next) s1
      | some v=>wpAny (model prog w) A (letOwnedTupleGo target it v) (fun _ s1'=>wpAny (model prog w) A (assign target env v) (fun _ s2 =>
          wpAny (model prog w) A (forIn ifs true fun c r=>if r=true then do let ok ← isTrue c env (eval c env);pure (ForInStep.yield ok) else pure (ForInStep.yield r)) (fun ok s3 =>
            if ok=true then wpAny (model prog w) A (eval elt env) (fun x s4 =>
              wpAny (model prog w) A (call (.builtin "list.append") [acc,x]) (fun _ s5=>∃ m,m < n∧J m s5) (notedBy (model prog w) A env fun e s'=>R (.error e) s') s4) (notedBy (model prog w) A env fun e s'=>R (.error e) s') s3
            else ∃ m,m < n∧J m s3) (notedBy (model prog w) A env fun e s'=>R (.error e) s') s2) (notedBy (model prog w) A env fun e s'=>R (.error e) s') s1') (notedBy (model prog w) A env fun e s'=>R (.error e) s') s1) (notedBy (model prog w) A env fun e s'=>R (.error e) s') s)
    (n:Nat) (h:J n s):codeAny (model prog w) A (.compLoop (.ListComp elt [⟨target,iter,ifs,0⟩] scope pos) 0 it acc env) R s:=by
  refine codeAny_loop rfl J (fun n s hJ=>?_) n h
  show wpAny _ A ((compTurn (.ListComp elt [⟨target,iter,ifs,0⟩] scope pos) 0 it acc env).onRaise (fun z=>do noteFrame z env;theTreesLotGoes z)) _ _ s
  refine wpAny_noted ?_
  rw [compTurn_list]
  refine wpAny_bind (wpAny_standAt (wpAny_bind (wpAny_mono (turn n s hJ) (fun r s1 h1=>?_) fun _ _ z=>z)))
  cases r with
  | none=>exact wpAny_pure h1
  | some v =>
    refine wpAny_bind (wpAny_mono h1 (fun _ s1' h1'=>?_) fun _ _ z=>z)
    refine wpAny_bind (wpAny_mono h1' (fun _ s2 h2=>wpAny_bind (wpAny_mono h2 (fun ok s3 h3=>?_) fun _ _ z=>z)) fun _ _ z=>z)
    cases ok with
    | false=>exact wpAny_pure ⟨rfl,h3⟩
    | true=>exact wpAny_bind (wpAny_bind (wpAny_mono h3 (fun x s4 h4=>wpAny_bind (wpAny_mono h4 (fun _ s5 h5=>wpAny_pure (wpAny_pure ⟨rfl,h5⟩)) fun _ _ z=>z)) fun _ _ z=>z))
theorem az5 (c:abS X xs scope) (hT:∀ C s H fp pins σ,aNS (a2N X xs scope C s H fp pins) tgt xs dv σ) (hdv:∀ d ds,dv d=some ds→ds.length=xs.length) (hc:∀ C s H fp pins,aBM (a2N X xs scope C s H fp pins) ifs tc) (he:∀ C s H fp pins,gG (a2N X xs scope C s H fp pins) elt te)
    {pins:List (Addr×Obj)} {s2:Shared} {σ:St} {H H2:Hp} {ρ:aY} {G1:Gp} {R:oK} {it:Addr} {fp:List Addr} {tn:Nat→Heap→Prop} {J:It} {src:Src} {RR:Value→Addr→Result→Shared→Prop} (sr:SR X.K H ρ σ) (I2:Inv X pins σ H2 s2) (T:Turn X.calm X.tp X.prog X.w X.K tgt J fp it tn) (st2:tn 0 s2.heap) (f2:∀ b∈fp,ahH X pins H2 b) (t1:Ts H H2) (g1:HR X.K H2 G1) (sj:av3 X.K H2 src J)
    (hlen:src.items.length < sizeLine) (body:∀ p,G1 p=none→∃ P:Nat→List D→Gp→Prop,P 0 [] (aQ G1 p (.lst [])) ∧
      (∀ k ds G,k≤src.items.length→P k ds G→src.ok G∧G p=some (.lst ds)∧ds.length≤k) ∧
      (∀ k d ds G,src.items[k]?=some d→P k ds G→∃ ys,dv d=some ys∧tc (ys.map some++ρ) G fun b G2=>if b=true then te (ys.map some++ρ) G2 fun y G3=>G3 p=some (.lst ds)∧P (k+1) (ds++[y]) (aQ G3 p (.lst (ds++[y]))) else P (k+1) ds G2) ∧
      ∀ ds G,P src.items.length ds G→∃ G0,Le G0 G∧R (.ref p) G0)
    (hRR:∀ Da C s5 H' G0,Inv X pins σ H' s5→aNR X pins H' C s5.heap→Ts H H'→HR X.K H' G0→R (.ref Da) G0→RR (.ref Da) C (.ok .next) s5) :
    wpAny (model X.prog X.w) X.A (newList []) (fun acc s₃=>wpAny (model X.prog X.w) X.A (newFunctionEnv scope X.env.globals (zR X.env.cells scope.names []) [] X.env.qual none .none (some X.env)) (fun cenv s₄ =>
      codeAny (model X.prog X.w) X.A (.compStart (.ListComp elt [⟨tgt,iter,ifs,0⟩] scope pos) 0 (.ref it) acc { cenv with scope:=relabel scope X.env }) (RR acc cenv.locals) s₄) X.xe s₃) X.xe s2:=by
  refine wpAny_newObj_type ?_
  have I3:=I2.aS9 (its:=[]) (ys:=[]) (t':=s2.toks) .nil (by decide)
  have hD:H2 s2.heap.objs.size=none:=I2.fresh
  have kf:=a6X I3
  have gD:G1 s2.heap.objs.size=none:=tH g1 hD kf
  obtain ⟨P,p0,pok,pst,pend⟩:=body _ gD
  have ltD:∀ b∈fp,b < s2.heap.objs.size:=fun b hb=>by
    obtain ⟨o,e,_⟩:=T.obj 0 _ st2 b hb
    exact Heap.lt_size e
  have hsz3:(s2.heap.push { cls := .type "list",data := .seq ([]:List Value).toArray }).objs.size=s2.heap.objs.size+1:=Heap.size_push ..
  have hf3:∀ b∈fp,ahH X pins (upd H2 s2.heap.objs.size (.lst [])) b∧b < (s2.heap.push { cls := .type "list",data := .seq ([]:List Value).toArray }).objs.size:=fun b hb=>by
    obtain ⟨f0,fr⟩:=f2 b hb
    exact ⟨⟨by rw [dF (Nat.ne_of_lt (ltD b hb))];exact f0,fr⟩,by rw [hsz3];exact Nat.lt_succ_of_lt (ltD b hb)⟩
  refine wpAny_newFunctionEnv c.av4 (by intro y hy;simp at hy) (fun h₁ hns₁ hsb₁=>?_) c.kind
  dsimp only at hns₁ hsb₁ ⊢
  generalize hH3:s2.heap.push { cls := .type "list",data := .seq ([]:List Value).toArray }=h3 at *
  generalize hDe:s2.heap.objs.size=Da at *
  have aK8:∀ b o,h3.get? b=some o→h₁.get? b=some o:=fun b o e=>hsb₁.extBut b o (Nat.ne_of_lt (Heap.lt_size e)) (Heap.get?_push_of_some _ e)
  show codeAny (model X.prog X.w) X.A (Code.compStart (elt.ListComp [{ target:=tgt,iter:=iter,ifs:=ifs,is_async:=0 }] scope pos) 0 (Value.ref it) (Value.ref Da) (compEnvC scope (zR X.env.cells scope.names []) h3.objs.size X.env))
    (RR (.ref Da) h3.objs.size) { s2 with heap:=h₁,toks:=s2.toks+([]:List (Str×Value)).length }
  have J0:=aNQ (tk:=s2.toks+([]:List (Str×Value)).length) I3 c rfl hf3 hns₁ aK8
  have st1:tn 0 h₁:=T.keep _ _ _ st2 fun b hb o e=>aK8 b o (by rw [← hH3];exact Heap.get?_push_of_some _ e)
  have g0:HR X.K (upd H2 Da (.lst [])) (aQ G1 Da (.lst [])):=g1.put (u := .lst []) hD ⟨[],aV,.nil⟩
  have ts0:Ts H2 (upd H2 Da (.lst [])) := .same (cU hD)
  have loop:∀ s₄:Shared,Inv (a2N X xs scope h3.objs.size { s2 with heap:=h3,toks:=s2.toks } (upd H2 Da (.lst [])) fp pins) [] (nn xs σ) (upd H2 Da (.lst [])) s₄→tn 0 s₄.heap →
      codeAny (model X.prog X.w) X.A (.compLoop (.ListComp elt [⟨tgt,iter,ifs,0⟩] scope pos) 0 (.ref it) (.ref Da) (compEnvC scope (zR X.env.cells scope.names []) h3.objs.size X.env)) (RR (.ref Da) h3.objs.size) s₄:=by
    intro s₄ J4 st4
    refine aBO (fun n s'=>∃ i ds H' G',Inv (a2N X xs scope h3.objs.size { s2 with heap:=h3,toks:=s2.toks } (upd H2 Da (.lst [])) fp pins) [] (nn xs σ) H' s'∧tn i s'.heap∧(∀ b∈fp,H' b=none)∧HR X.K H' G'∧P i ds G'∧i≤src.items.length∧n=src.items.length - i∧Ts H2 H') (fun n s' hI=>?_) src.items.length
      ⟨0,[],_,_,J4,st4,fun b hb=>(hf3 b hb).1.1,g0,p0,Nat.zero_le _,by simp,ts0⟩
    obtain ⟨i,ds,H',G',J,st,fr,g',p,hi',rfl,ts⟩:=hI
    obtain ⟨ok,hDl,hdl⟩:=pok i ds G' hi' p
    obtain ⟨sgo,aY9,aTF⟩:=sj H' G' ts g' ok
    have fpX:∀ {H':Hp},(∀ b∈fp,H' b=none)→∀ b∈fp,ahH (a2N X xs scope h3.objs.size { s2 with heap:=h3,toks:=s2.toks } (upd H2 Da (.lst [])) fp pins) [] H' b:=fun hn b hb=>by
      obtain ⟨⟨f0,f1,f2',f3,f4,f5⟩,lt⟩:=hf3 b hb
      refine ⟨hn b hb,Nat.ne_of_lt lt,fun hs=>?_,.inl hb,fun y d e=>f4 y d (sW e fun _ h=>by simp at h),fun p' hp'=>f5 p' (by simpa using hp')⟩
      rcases aoK I3 hs with z | z
      · exact f1 z
      · exact f2' z
    by_cases hlt:i < src.items.length
    · refine wpAny_mono (T.item (a2N X xs scope h3.objs.size { s2 with heap:=h3,toks:=s2.toks } (upd H2 Da (.lst [])) fp pins) rfl rfl rfl (fun h=>h) (fun _ h=>h) i [] s' (nn xs σ) H' (fun _ _=>False) J (fpX fr) st (sgo i hlt)) (fun r s5 ⟨u,hr,h5⟩=>?_) fun _ _ z=>z.elim
      subst hr
      obtain ⟨d0,ys,hd0,ey,aYB⟩:∃ d ys,src.items[i]?=some d∧dv d=some ys∧tc (ys.map some++ρ) G' fun b G2=>if b=true then te (ys.map some++ρ) G2 fun y G3=>G3 Da=some (.lst ds)∧P (i+1) (ds++[y]) (aQ G3 Da (.lst (ds++[y]))) else P (i+1) ds G2:=by
        have hd:src.items[i]?=some src.items[i]:=List.getElem?_eq_getElem hlt
        obtain ⟨ys,e,z⟩:=pst i _ ds G' hd p
        exact ⟨_,ys,hd,e,z⟩
      show wpAny _ _ (letOwnedTupleGo tgt (.ref it) u) _ _ s5
      refine wpAny_mono h5 (fun _ s6 ⟨vx,H6,I6,r6,y6,st6,fr6⟩=>?_) fun _ _ z=>z.elim
      obtain ⟨sm,d,hd,rd⟩:=aY9 i vx H6 hlt y6
      have g':=g'.same sm
      have ts:=ts.trans (.same sm)
      obtain rfl:d0=d:=Option.some.inj (hd0.symm.trans hd)
      have I6':=I6.pinned (fpX fr6) (T.obj _ _ st6)
      refine wpAny_mono (hT _ _ _ _ _ _ _ s6 H6 vx u _ _ I6' r6 rd ey) (fun _ s7 ⟨vs,rvs,I7⟩=>?_) fun _ _ z=>z.elim
      have lv:vs.length=xs.length:=by rw [← rvs.length];exact hdv _ _ ey
      have aBP:∀ {s'':Shared} {σ'':St} {H'':Hp},Inv (a2N X xs scope h3.objs.size { s2 with heap:=h3,toks:=s2.toks } (upd H2 Da (.lst [])) fp pins) ([]++aeM fp s6.heap) σ'' H'' s''→tn (i+1) s''.heap∧∀ b∈fp,H'' b=none:=fun I''=>by
        refine ⟨T.keep _ _ _ st6 fun b hb o e=>(I''.pin (b,o) (List.mem_append_right _ (List.mem_append_right _ (a4W hb e)))).1,fun b hb=>?_⟩
        obtain ⟨o,e,_⟩:=T.obj _ _ st6 b hb
        exact (I''.pin (b,o) (List.mem_append_right _ (List.mem_append_right _ (a4W hb e)))).2.1
      have down:∀ {s'':Shared} {H'':Hp},Inv (a2N X xs scope h3.objs.size { s2 with heap:=h3,toks:=s2.toks } (upd H2 Da (.lst [])) fp pins) ([]++aeM fp s6.heap) (vs.map some++σ) H'' s''→Inv (a2N X xs scope h3.objs.size { s2 with heap:=h3,toks:=s2.toks } (upd H2 Da (.lst [])) fp pins) [] (nn xs σ) H'' s'':=fun I'' =>
        I''.acN.weak (by simp [nn,lv]) fun j v e=>by
          obtain ⟨j',rfl,e'⟩:=aBK e
          rw [← lv,show vs.length=(vs.map some).length by simp,awY]
          exact e'
      have sr7:SR X.K H6 (ys.map some++ρ) (vs.map some++σ):=aBN (sr.mono (t1.trans ts)) rvs
      refine wpAny_mono (hc _ _ _ _ _ _ s7 (vs.map some++σ) H6 (fun b H8=>Ts H6 H8∧∃ G8,HR X.K H8 G8∧(if b=true then te (ys.map some++ρ) G8 fun y G3=>G3 Da=some (.lst ds)∧P (i+1) (ds++[y]) (aQ G3 Da (.lst (ds++[y]))) else P (i+1) ds G8)) I7
        ⟨ys.map some++ρ,G',_,sr7,g',aYB,fun b H8 G8 t8 g8 q8=>⟨t8,G8,g8,q8⟩⟩) (fun b s8 ⟨H8,I8,t8,G8,g8,q8⟩=>?_) fun _ _ z=>z.elim
      cases b with
      | false =>
        rw [if_neg (by decide)]
        have q8':P (i+1) ds G8:=by simpa using q8
        obtain ⟨a1,a2⟩:=aBP I8
        exact ⟨src.items.length - (i+1),by omega,i+1,ds,H8,G8,down I8,a1,a2,g8,q8',hlt,rfl,ts.trans t8⟩
      | true =>
        rw [if_pos rfl]
        have q8':te (ys.map some++ρ) G8 fun y G3=>G3 Da=some (.lst ds)∧P (i+1) (ds++[y]) (aQ G3 Da (.lst (ds++[y]))):=by simpa using q8
        refine wpAny_mono (he _ _ _ _ _ _ s8 (vs.map some++σ) H8 (fun vy H9=>Ts H8 H9∧∃ y G9,RD X.K H9 y vy∧HR X.K H9 G9∧G9 Da=some (.lst ds)∧P (i+1) (ds++[y]) (aQ G9 Da (.lst (ds++[y])))) I8 ⟨ys.map some++ρ,G8,_,sr7.mono t8,g8,q8',fun vy H9 y G9 t9 r9 g9 q9=>⟨t9,y,G9,r9,g9,q9⟩⟩) (fun uy s9 ⟨vy,H9,I9,ry,t9,y,G9,ryd,g9,hG9,q9⟩=>?_) fun _ _ z=>z.elim
        obtain ⟨ws,hH9,rws⟩:=g9 Da _ hG9
        have aTH:ws.length < sizeLine:=by rw [← rws.length];omega
        refine wpAny_mono (amL (X:=a2N X xs scope h3.objs.size { s2 with heap:=h3,toks:=s2.toks } (upd H2 Da (.lst [])) fp pins) _ s9 (vs.map some++σ) H9 (.ref Da) [vy] (.ref Da) [uy] (fun _ H10=>H10=upd H9 Da (.lst (ws++[vy]))) I9 rfl (.cons ry .nil) ⟨Da,ws,vy,rfl,rfl,hH9,aTH,rfl⟩) (fun _ s10 ⟨_,H10,I10,_,e10⟩=>?_) fun _ _ z=>z.elim
        subst e10
        obtain ⟨a1,a2⟩:=aBP I10
        have tt:Ts H9 (upd H9 Da (.lst (ws++[vy]))) := .turn hH9 (fun _ z=>nomatch z) (fun _ _ z=>nomatch z)
        exact ⟨src.items.length - (i+1),by omega,i+1,ds++[y],_,_,down I10,a1,a2,g9.turn (u := .lst (ds++[y])) tt ⟨_,aV,(rws.append (.cons ryd .nil)).mono tt⟩,q9,hlt,rfl,((ts.trans t8).trans t9).trans tt⟩
    · have ein:i=src.items.length:=by omega
      subst ein
      refine wpAny_mono (T.done (a2N X xs scope h3.objs.size { s2 with heap:=h3,toks:=s2.toks } (upd H2 Da (.lst [])) fp pins) rfl rfl rfl (fun h=>h) (fun _ h=>h) _ [] s' (nn xs σ) H' (fun _ _=>False) J (fpX fr) st aTF) (fun r s5 ⟨hr,J5⟩=>?_) fun _ _ z=>z.elim
      subst hr
      obtain ⟨m5,hn5,_⟩:=id J5.loc
      obtain ⟨G0,l0,q0⟩:=pend ds G' p
      have I5:Inv X pins σ H' s5:=aG9 (tk:=s5.toks) I3 rfl hf3 J5 (Heap.SameBut.refl _ _)
      refine hRR Da _ s5 H' G0 I5 ⟨⟨m5,hn5⟩,J5.free,Nat.ne_of_gt I3.lt,I3.sz,fun y d e z=>?_,fun p hp z=>?_⟩ (t1.trans ts) (g'.le l0) q0
      · obtain ⟨w,o,ho,_⟩:=I3.cell y d e
        rw [z] at ho
        exact absurd (Heap.lt_size ho) (Nat.lt_irrefl _)
      · have:=(I3.pin p hp).1
        rw [z] at this
        exact absurd (Heap.lt_size this) (Nat.lt_irrefl _)
  exact codeAny_compStart_list (loop _ J0 st1) (T.self X.A 0 _ _ _ st1 (loop _ J0 st1))
def aoL (dv:D→Option (List D)) (ti:TI3) (tc:TT3) (te:dX):dX:=fun ρ G R=>ti ρ G fun src G1=>src.items.length < sizeLine∧∀ p,G1 p=none→∃ P:Nat→List D→Gp→Prop,P 0 [] (aQ G1 p (.lst [])) ∧
  (∀ k ds G,k≤src.items.length→P k ds G→src.ok G∧G p=some (.lst ds)∧ds.length≤k) ∧
  (∀ k d ds G,src.items[k]?=some d→P k ds G→∃ ys,dv d=some ys∧tc (ys.map some++ρ) G fun b G2=>if b=true then te (ys.map some++ρ) G2 fun y G3=>G3 p=some (.lst ds)∧P (k+1) (ds++[y]) (aQ G3 p (.lst (ds++[y]))) else P (k+1) ds G2) ∧
  ∀ ds G,P src.items.length ds G→∃ G0,Le G0 G∧R (.ref p) G0
def az6 (d:D):Option (List D):=some [d]
abbrev av5 (ti:TI3) (tc:TT3) (te:dX):dX:=aoL az6 ti tc te
theorem aBQ (d:D) (ds:List D) (h:az6 d=some ds):ds.length=[x].length:=by
  unfold az6 at h;cases h;rfl
theorem aBR {N:List Str} (c:abS X xs scope) (hnd:X.N.Nodup):(xs++X.N).Nodup:=List.nodup_append.mpr ⟨c.nd,hnd,fun a ha b hb e=>c.out a ha (e ▸ hb)⟩
theorem aNT (c:abS X [x] scope) (hnd:X.N.Nodup) {C:Addr} {s:Shared} {H:Hp} {fp:List Addr} {pins:List (Addr×Obj)} {σ:St}:aNS (a2N X [x] scope C s H fp pins) (.Name x px) [x] az6 σ:=by
  intro acM s' H' v u d ds I r rd e
  unfold az6 at e
  cases e
  have pgn:PG (a2N X [x] scope C s H fp pins) (.Name x px) (awL 0):=anW (aBR (N:=X.N) c hnd) rfl (.inl (lookup_relabel_local (c.var x (by simp)))) (.inr (lookup_relabel_local (c.var x (by simp))))
  refine wpAny_mono (pgn acM s' (nn [x] σ) H' v u (fun σ' H2=>σ'=[v].map some++σ∧H2=H') I r ⟨rfl,rfl⟩) (fun _ s2 ⟨σ2,H2,I2,e2,e3⟩=>?_) fun _ _ z=>z
  subst e2;subst e3
  exact ⟨[v],.cons rd .nil,I2⟩
theorem aGC (c:abS X xs scope) (hT:∀ C s H fp pins σ,aNS (a2N X xs scope C s H fp pins) tgt xs dv σ) (hdv:∀ d ds,dv d=some ds→ds.length=xs.length) (hi:PI3 X tgt iter ti) (hc:∀ C s H fp pins,aBM (a2N X xs scope C s H fp pins) ifs tc) (he:∀ C s H fp pins,gG (a2N X xs scope C s H fp pins) elt te)
    (hs:∀ y,foldedSetIterable iter X.env y=pure y):gG X (.ListComp elt [⟨tgt,iter,ifs,0⟩] scope pos) (aoL dv ti tc te):=by
  intro pins s σ H Q I h
  obtain ⟨ρ,G,R,sr,g,q,kk⟩:=h
  rw [eval_ListComp]
  refine wpAny_comprehension_free (use:=none) rfl hs (aeV fun y hy hf=>I.ok.has y.1 (c.frees y hy hf)) c.kind c.locs ?_
  refine kY (hi pins s σ H (fun J H1=>Ts H H1∧∃ src G1,HR X.K H1 G1∧av3 X.K H1 src J∧(src.items.length < sizeLine∧∀ p,G1 p=none→∃ P:Nat→List D→Gp→Prop,P 0 [] (aQ G1 p (.lst [])) ∧
      (∀ k ds G,k≤src.items.length→P k ds G→src.ok G∧G p=some (.lst ds)∧ds.length≤k) ∧
      (∀ k d ds G,src.items[k]?=some d→P k ds G→∃ ys,dv d=some ys∧tc (ys.map some++ρ) G fun b G2=>if b=true then te (ys.map some++ρ) G2 fun y G3=>G3 p=some (.lst ds)∧P (k+1) (ds++[y]) (aQ G3 p (.lst (ds++[y]))) else P (k+1) ds G2) ∧
      ∀ ds G,P src.items.length ds G→∃ G0,Le G0 G∧R (.ref p) G0)) I ⟨ρ,G,_,sr,g,q,fun src J H' G' t1 g1 sj q1=>⟨t1,src,G',g1,sj,q1⟩⟩) fun v s1 h1=>kY h1 fun itv s2 ⟨it,fp,tn,J,H2,e,I2,T,st2,f2,t1,src,G1,g1,sj,hlen,body⟩=>?_
  subst e
  exact az5 (RR:=fun acc C=>compPost (model X.prog X.w) X.A X.xe none (EP X pins σ Q) acc C) c hT hdv hc he sr I2 T st2 f2 t1 g1 sj hlen body fun Da C s5 H' G0 I5 o ts g0 q0=>by
    obtain ⟨m,hn⟩:=o.ns
    exact ⟨m,hn,fun h' hs'=>⟨.ref Da,H',o.turn I5 hs',rfl,kk _ H' _ G0 ts (.ref Da) g0 q0⟩⟩
end
end L2
namespace L2
open PySem PySem.Spec PyProof.Rows
abbrev TG3:=D→aY→(aY→Prop)→Prop
def upG (K:Fg) (t:TG3):TG:=fun v σ H Q=>∃ ρ d R,SR K H ρ σ∧RD K H d v∧t d ρ R∧∀ ρ' σ',SR K H ρ' σ'→R ρ'→Q σ' H
abbrev PG3 (X:Cx) (tg:Expr) (t:TG3):Prop:=PG X tg (upG X.K t)
def aoM (i:Nat):TG3:=fun d ρ Q=>Q (a3M ρ i d)
def ag9:aY→List Nat→List D→aY
  | ρ,i :: is,d :: ds=>ag9 (a3M ρ i d) is ds
  | ρ,_,_=>ρ
def arG (is:List Nat):TG3:=fun d ρ Q=>match d with
  | .tup ds=>ds.length=is.length∧Q (ag9 ρ is ds)
  | _=>False
def aBS:St→List Nat→List V→St
  | σ,i :: is,v :: vs=>aBS (σ.set i (some v)) is vs
  | σ,_,_=>σ
theorem SR.sets {K:Fg} {H:Hp}:∀ {is:List Nat} {ds:List D} {vs:List V} {ρ:aY} {σ:St},iG K H ds vs→SR K H ρ σ→SR K H (ag9 ρ is ds) (aBS σ is vs)
  | [],_,_,_,_,_,s=>s
  | _ :: _,_,_,_,_,.nil,s=>s
  | i :: is,_,_,_,_,.cons h r,s=>SR.sets (is:=is) r (s.set h i)
section
variable {X:Cx}
theorem PG.imp {e:Expr} {t t':TG} (h:PG X e t) (k:∀ v σ H Q,t' v σ H Q→t v σ H Q):PG X e t':=fun pins s σ H v u Q I r q=>h pins s σ H v u Q I r (k _ _ _ _ q)
theorem aNU {i:Nat} {x:Str} {pos:Pos} (hN:X.N.Nodup) (hi:X.N[i]?=some x) (hx:Loc X.env.scope x) (hf:X.fn x=true∨X.env.scope.names.lookup x=some .local):PG3 X (.Name x pos) (aoM i) :=
  PG.imp (anW hN hi hx hf) fun v σ H Q h=>by
  obtain ⟨ρ,d,R,s,r,q,k⟩:=h
  exact k _ _ (s.set r i) q
structure aNV (X:Cx) (e:Expr) (i:Nat):Prop where
  ex:∃ x pos,e = .Name x pos∧X.N[i]?=some x∧Loc X.env.scope x∧(X.fn x=true∨X.env.scope.names.lookup x=some .local)
def aNW:List Nat→TGs
  | []=>aRL
  | i :: is=>aJY (awL i) (aNW is)
theorem awZ:∀ {is:List Nat} {vs:List V} {σ:St} {H:Hp} {Q:St→Hp→Prop},vs.length=is.length→Q (aBS σ is vs) H→aNW is vs σ H Q
  | [],[],_,_,_,_,q=>⟨rfl,q⟩
  | [],_ :: _,_,_,_,h,_=>by simp at h
  | _ :: _,[],_,_,_,h,_=>by simp at h
  | i :: is,v :: vs,σ,H,Q,h,q=>⟨v,vs,rfl,awZ (is:=is) (by simpa using h) q⟩
theorem amX (hN:X.N.Nodup):∀ {es:List Expr} {is:List Nat},Two (aNV X) es is→PGs X es (aNW is)∧(assignEach es X.env).length=is.length∧(assignEach es X.env).findIdx? (·.1)=none
  | _,_,.nil=>⟨aF0,rfl,rfl⟩
  | _,_,.cons (a:=e) (b:=i) h r=>by
    obtain ⟨x,pos,rfl,h1,h2,h3⟩:=h.ex
    obtain ⟨a1,a2,a3⟩:=amX hN r
    refine ⟨aAN (anW hN h1 h2 h3) a1 rfl,?_,?_⟩
    · show (assignEach _ X.env).length+1=_
      rw [a2];rfl
    · show ((false,assign (.Name x pos) X.env) :: assignEach _ X.env).findIdx? (·.1)=none
      rw [List.findIdx?_cons]
      simp [a3]
theorem aTI {es:List Expr} {is:List Nat} {k:Nat} {pos:Pos} (hN:X.N.Nodup) (hc:X.calm=true) (h:Two (aNV X) es is):PG3 X (.Tuple es k pos) (arG is):=by
  obtain ⟨a1,a2,a3⟩:=amX hN h
  refine PG.imp (aLT hc a1 a2 a3) fun v σ H Q h=>?_
  obtain ⟨ρ,d,R,s,r,q,k⟩:=h
  cases r with
  | @tup a vs ds hq rv =>
    have q':ds.length=is.length∧R (ag9 ρ is ds):=q
    exact ⟨a,vs,rfl,hq,by rw [← rv.length];exact q'.1,awZ (by rw [← rv.length];exact q'.1) (k _ _ (SR.sets rv s) q'.2)⟩
  | _=>exact False.elim q
def aGD (K:Fg) (src:Src) (J:It):Prop:=∀ H2 G2,HR K H2 G2→src.ok G2 →
  (∀ i,i < src.items.length→J.go i H2)∧(∀ i v H',i < src.items.length→J.yld i H2 v H'→Same H2 H'∧∃ d,src.items[i]?=some d∧RD K H' d v)∧J.stop src.items.length H2
def aYE (K:Fg) (t:TI3):TI:=fun σ H Q=>∃ ρ G R,SR K H ρ σ∧HR K H G∧t ρ G R∧∀ src J H' G',Ts H H'→HR K H' G'→aGD K src J→R src G'→Q J H'
abbrev PIS (X:Cx) (tg iter:Expr) (t:TI3):Prop:=PI X tg iter (aYE X.K t)
def aGE (te:dX):TI3:=fun ρ G R=>te ρ G fun x G1=>match x with
  | .ref p=>(match bZ G1 p with
    | some xs=>R (.lst p xs) G1
    | none=>False)
  | .str z=>R (.imm (signs z)) G1
  | _=>False
theorem az7 {K:Fg} {p:Addr} {xs:List D}:aGD K (.lst p xs) (Itl K p):=fun H2 G2 g ok=>amW (H1:=H2) H2 G2 (.refl _) g ok
theorem arH {K:Fg} {z:Str}:aGD K (.imm (signs z)) (Its z):=fun H2 G2 g ok=>aiY (H1:=H2) H2 G2 (.refl _) g ok
theorem aBT {K:Fg} {lo:Int} {n:Nat}:aGD K (.imm ((List.range n).map fun (i:Nat) => .int (lo+(i:Int)))) (Itr lo n):=fun H2 G2 g ok=>arE (H1:=H2) H2 G2 (.refl _) g ok
theorem aNX {tg l:Expr} {te:dX} (hl:gG X l te):PIS X tg l (aGE te):=by
  intro pins s σ H R I h
  obtain ⟨ρ,G,R3,sr,g,q,k⟩:=h
  refine kY (hl pins s σ H (fun v H1=>Ts H H1∧∃ x G1,RD X.K H1 x v∧HR X.K H1 G1∧(match x with
    | .ref p=>(match bZ G1 p with
      | some xs=>R3 (.lst p xs) G1
      | none=>False)
    | .str z=>R3 (.imm (signs z)) G1
    | _=>False)) I ⟨ρ,G,_,sr,g,q,fun v H1 x G1 t1 r g1 q1=>⟨t1,x,G1,r,g1,q1⟩⟩) fun v s1 ⟨x,H1,I1,r1,t1,d,G1,rd,g1,q1⟩=>?_
  cases rd with
  | ref a =>
    have q1':(match bZ G1 a with
      | some xs=>R3 (.lst a xs) G1
      | none=>False):=q1
    split at q1'
    · rename_i xs e
      cases r1
      obtain ⟨vs,hq,rv⟩:=gW g1 e
      obtain ⟨its,rv',p,hz⟩:=I1.list hq
      refine wpAny_pyIter_list p.isList ?_
      refine ⟨s1.heap.objs.size,[s1.heap.objs.size],_,_,H1,rfl,I1.kept (t':=s1.toks) fun b o e=>Heap.get?_push_of_some _ e,amC a _,⟨_,Heap.get?_push_size _ rfl,rfl,rfl⟩,fun b hb=>?_,k _ _ H1 G1 t1 g1 az7 q1'⟩
      have e:b=s1.heap.objs.size:=by simpa using hb
      subst e
      exact I1.aqQ (Nat.le_refl _) (I1.hok.fresh (Nat.le_refl _))
    · exact q1'.elim
  | str z =>
    obtain ⟨t,rfl⟩:=r1
    cases ha:z.cps.all (· < 128)
    · refine wpAny_pyIter_wide ha ?_
      refine ⟨s1.heap.objs.size,[s1.heap.objs.size],_,_,H1,rfl,I1.kept (t':=s1.toks) fun b o e=>Heap.get?_push_of_some _ e,amV _ z t,?_,fun b hb=>?_,k _ _ H1 G1 t1 g1 arH q1⟩
      · rw [Nat.zero_min];exact ⟨_,Heap.get?_push_size _ rfl,rfl,rfl⟩
      · have e:b=s1.heap.objs.size:=by simpa using hb
        subst e
        exact I1.aqQ (Nat.le_refl _) (I1.hok.fresh (Nat.le_refl _))
    · refine wpAny_pyIter_ascii ha ?_
      refine ⟨s1.heap.objs.size,[s1.heap.objs.size],_,_,H1,rfl,I1.kept (t':=s1.toks) fun b o e=>Heap.get?_push_of_some _ e,amU _ z t,?_,fun b hb=>?_,k _ _ H1 G1 t1 g1 arH q1⟩
      · rw [Nat.zero_min];exact ⟨_,Heap.get?_push_size _ rfl,rfl,rfl⟩
      · have e:b=s1.heap.objs.size:=by simpa using hb
        subst e
        exact I1.aqQ (Nat.le_refl _) (I1.hok.fresh (Nat.le_refl _))
  | _=>exact q1.elim
theorem aGF {tg a:Expr} {ta:zQ} {p pos:Pos} (hg:Gl X "range") (hm:X.mg "range" = none) (ha:PA3 X [a] ta) (hs:starEach [a] X.env=[(false,eval a X.env)]):PIS X tg (.Call (.Name "range" p) [a] [] pos) (aiZ ta) :=
  PI.imp (amD hg hm ha hs) fun σ H Q h=>by
  obtain ⟨ρ,G,R,s,g,q,k⟩:=h
  refine ⟨ρ,G,_,s,g,q,fun vs H1 ds G1 t1 r g1 h1=>?_⟩
  cases r with
  | nil=>exact h1.elim
  | cons r rr =>
    cases rr with
    | cons _ _=>cases r <;> exact False.elim h1
    | nil =>
      cases r with
      | int j =>
        obtain ⟨l1,l2,h1⟩:=h1
        refine ⟨j,rfl,l1,l2,k _ _ H1 G1 t1 g1 ?_ h1⟩
        unfold arF
        rw [show (j - 0).toNat=j.toNat by omega]
        exact aBT
      | _=>exact False.elim h1
def aoN (ti:TI3) (tg:TG3) (tb:cI):cI:=fun F ρ G=>ti ρ G fun src G1=>∃ P:Nat→aY→Gp→Prop,P 0 ρ G1∧(∀ k ρ G,k≤src.items.length→P k ρ G→src.ok G) ∧
  (∀ k d ρ G,src.items[k]?=some d→P k ρ G→tg d ρ fun ρ2=>tb { F with nx:=P (k+1),ct:=P (k+1),bk:=F.nx } ρ2 G)∧∀ ρ G,P src.items.length ρ G→F.nx ρ G
theorem aNY {tgt iter:Expr} {body:List Stmt} {ti:TI3} {tg:TG3} {tb:cI} {pos:Pos} (hp:PassesOwn (model X.prog X.w) X.A X.env X.xe) (hi:PIS X tgt iter ti) (hg:PG3 X tgt tg) (hb:aeP X body tb)
    (hs:∀ x,foldedSetIterable iter X.env x=pure x):PS3 X (.For tgt iter body [] pos) (aoN ti tg tb):=PS.imp (aLW hp hi hg hb hs) fun F σ H h=>by
  obtain ⟨ρ,G,E,s,g,q,d⟩:=h
  refine ⟨ρ,G,fun src G1=>∃ P:Nat→aY→Gp→Prop,P 0 ρ G1∧(∀ k ρ G,k≤src.items.length→P k ρ G→src.ok G) ∧
    (∀ k d ρ G,src.items[k]?=some d→P k ρ G→tg d ρ fun ρ2=>tb { E with nx:=P (k+1),ct:=P (k+1),bk:=E.nx } ρ2 G)∧∀ ρ G,P src.items.length ρ G→E.nx ρ G,s,g,q,fun src J H1 G1 t1 g1 sj ⟨P,p0,pok,pst,pend⟩=>?_⟩
  refine aBA (K:=X.K) (n:=src.items.length) (fun k σ2 H2=>∃ ρ' G',SR X.K H2 ρ' σ2∧HR X.K H2 G'∧P k ρ' G') ⟨ρ,G1,s.mono t1,g1,p0⟩ (fun σ2 H2 ⟨ρ',G',s2,g2,p⟩=>?_) (fun k σ2 H2 hk ⟨ρ',G',s2,g2,p⟩=>?_) (fun k y σ2 H2 H3 hk ⟨ρ',G',s2,g2,p⟩ hy=>?_)
    (fun σ2 H2 ⟨ρ',G',s2,g2,p⟩=>d.nx ρ' G' σ2 H2 s2 g2 (pend ρ' G' p))
  · exact (sj H2 G' g2 (pok _ ρ' G' (Nat.le_refl _) p)).2.2
  · exact (sj H2 G' g2 (pok _ ρ' G' (Nat.le_of_lt hk) p)).1 k hk
  · obtain ⟨sm,dk,e1,e2⟩:=(sj H2 G' g2 (pok _ ρ' G' (Nat.le_of_lt hk) p)).2.1 k y H3 hk hy
    refine ⟨ρ',dk,_,s2.mono (.same sm),e2,pst k dk ρ' G' e1 p,fun ρ2 σ3 s3 q3=>?_⟩
    exact ⟨ρ2,G',_,s3,g2.same sm,q3,⟨fun ρ4 G4 σ4 H4 s4 g4 q4=>⟨ρ4,G4,s4,g4,q4⟩,d.rt,d.nx,fun ρ4 G4 σ4 H4 s4 g4 q4=>⟨ρ4,G4,s4,g4,q4⟩⟩⟩
end
end L2
namespace L2
open PySem PySem.Spec PyProof.Rows
def az8:D→Bool
  | .bl _=>true
  | _=>false
def az9:D→Bool
  | .bl b=>b
  | _=>false
def aZU:List D→Gp→oK→Prop:=fun xs G R=>match xs with
  | [.ref q]=>(match bZ G q with
    | some ds=>ds.all az8=true∧R (.bl (ds.all az9)) G
    | none=>False)
  | _=>False
def trN (ds:List D) (i:Nat):Bool:=match ds[i]? with
  | some d=>az9 d
  | none=>false
section
variable {X:Cx}
theorem azA {K:Fg} {H:Hp} {ds:List D} {vs:List V} {us:List Value} (r:iG K H ds vs) (v:Vals vs us) (hb:ds.all az8=true) {i:Nat} {u:Value} (e:us[i]?=some u):u = .bool (trN ds i):=by
  obtain ⟨d,x,h1,h2,h3⟩:=Vals.aBE r v e
  have hd:az8 d=true:=List.all_eq_true.mp hb d (List.mem_of_getElem? h1)
  unfold trN
  rw [h1]
  cases h2 with
  | bl b=>exact h3
  | _=>cases hd
def on2 (xs:List D) (f:Int→Int→Prop):Prop:=match xs with
  | [.int i,.int j]=>f i j
  | _=>False
def aK9:List D→Gp→oK→Prop:=fun xs G R=>on2 xs fun i j=>R (.int (if j < i then j else i)) G
def aKA:List D→Gp→oK→Prop:=fun xs G R=>on2 xs fun i j=>R (.int (if i < j then j else i)) G
theorem arI {K:Fg} {H:Hp} {xs:List D} {vs:List V} (r:iG K H xs vs) {f:Int→Int→Prop} (h:on2 xs f):∃ i j,xs=[.int i,.int j]∧vs=[.int i,.int j]∧f i j:=by
  match xs,vs,r,h with
  | [],_,_,h=>exact h.elim
  | [_],_,.cons r .nil,h=>cases r <;> exact False.elim h
  | [_,_],_,.cons r (.cons r' .nil),h =>
    cases r with
    | int i =>
      cases r' with
      | int j=>exact ⟨i,j,rfl,rfl,h⟩
      | _=>exact False.elim h
    | _=>cases r' <;> exact False.elim h
  | _ :: _ :: _ :: _,_,.cons r (.cons r' _),h=>cases r <;> cases r' <;> exact False.elim h
theorem aTJ (hc:X.calm=true):fL X (.builtin "min") aK9:=fL.of (ayJ hc) fun H xs vs G R Q rx g q k=>by
  obtain ⟨i,j,rfl,rfl,q'⟩:=arI (f:=fun i j=>R (.int (if j < i then j else i)) G) rx q
  exact ⟨i,j,rfl,fun _=>k _ H _ G (.refl H) (.int _) g q'⟩
theorem aTK (hc:X.calm=true):fL X (.builtin "max") aKA:=fL.of (ayI hc) fun H xs vs G R Q rx g q k=>by
  obtain ⟨i,j,rfl,rfl,q'⟩:=arI (f:=fun i j=>R (.int (if i < j then j else i)) G) rx q
  exact ⟨i,j,rfl,fun _=>k _ H _ G (.refl H) (.int _) g q'⟩
end
end L2
namespace L2
open PySem PySem.Spec PyProof.Rows
def onN (x:D) (f:Int→Prop):Prop:=match x with
  | .int k=>f k
  | _=>False
section
variable {X:Cx} {pos:Pos}
def aO0 (is:List Nat) (te:dX):cI:=fun F ρ G=>te ρ G fun d G1=>arG is d ρ fun ρ2=>F.nx ρ2 G1
def aTM (i:Nat) (f:Int→Int→Int) (te:dX):cI:=fun F ρ G=>aC i ρ G fun x G0=>onN x fun a=>te ρ G0 fun y G1=>onN y fun b=>F.nx (a3M ρ i (.int (f a b))) G1
def aoO (c:TT3) (tb:cI):cI:=fun F ρ G=>∃ W:Nat→aY→Gp→Prop,(∃ m,W m ρ G)∧∀ m ρ G,W m ρ G→c ρ G fun b G1=>if b=true then tb { F with nx:=fun ρ' G'=>∃ m',m' < m∧W m' ρ' G',ct:=fun ρ' G'=>∃ m',m' < m∧W m' ρ' G',bk:=F.nx } ρ G1 else F.nx ρ G1
theorem aGG {c:Expr} {body:List Stmt} {tc:TT3} {tb:cI} (hp:PassesOwn (model X.prog X.w) X.A X.env X.xe) (hc:PT3 X c tc) (hb:aeP X body tb):PS3 X (.While c body [] pos) (aoO tc tb):=PS.imp (aAO hp hc hb) fun F σ H h=>by
  obtain ⟨ρ,G,E,s,g,⟨W,⟨m0,w0⟩,turn⟩,d⟩:=h
  refine ⟨fun m σ H=>∃ ρ G,SR X.K H ρ σ∧HR X.K H G∧W m ρ G,⟨m0,ρ,G,s,g,w0⟩,fun m σ1 H1 ⟨ρ1,G1,s1,g1,w1⟩=>⟨ρ1,G1,_,s1,g1,turn m ρ1 G1 w1,fun b H2 G2 t2 g2 q2=>?_⟩⟩
  cases b with
  | true =>
    rw [if_pos rfl]
    rw [if_pos rfl] at q2
    refine ⟨fun σ' H'=>∃ ρ' G',SR X.K H' ρ' σ'∧HR X.K H' G'∧∃ m',m' < m∧W m' ρ' G',fun σ' H' ⟨ρ',G',s',g',m',hm,w'⟩=>⟨m',hm,ρ',G',s',g',w'⟩,ρ1,G2,_,s1.mono t2,g2,q2,?_⟩
    exact ⟨fun ρ' G' σ' H' s' g' q'=>⟨ρ',G',s',g',q'⟩,d.rt,d.nx,fun ρ' G' σ' H' s' g' q'=>⟨ρ',G',s',g',q'⟩⟩
  | false=>exact d.nx _ _ _ _ (s1.mono t2) g2 (by simpa using q2)
end
theorem ints_of {K:Fg} {H:Hp}:∀ {ns:List Int} {vs:List V} {us:List Value},iG K H (ns.map D.int) vs→Vals vs us→∃ ys:List (Int×Tok),us=ys.map (fun p=>Value.int p.1 p.2)∧ys.map (·.1)=ns
  | [],_,_,r,v=>by cases r;cases v;exact ⟨[],rfl,rfl⟩
  | n :: ns,_,_,r,v=>by
    cases r with
    | cons h r =>
      cases h with
      | int i =>
        cases v with
        | cons hu v =>
          obtain ⟨t,rfl⟩:=hu
          obtain ⟨ys,e1,e2⟩:=ints_of r v
          exact ⟨(n,t) :: ys,by rw [e1];rfl,by rw [List.map_cons,e2]⟩
def aGH (xs:List D) (G:Gp) (P:List D→Prop) (O:Prop):Prop:=match xs with
  | [.ref q]=>(match bZ G q with
    | some ds=>P ds
    | none=>False)
  | _=>O
def aKB:List D→Gp→oK→Prop:=fun xs G R=>aGH xs G (fun ds=>∃ ns:List Int,ds=ns.map D.int∧R (.int ns.sum) G) False
section
variable {X:Cx}
theorem aO1 {H:Hp} {xs:List D} {vs:List V} {us:List Value} {P:List D→Prop} {O:Prop} {pins:List (Addr×Obj)} {s:Shared} {σ:St} {G:Gp} (I:Inv X pins σ H s) (rx:iG X.K H xs vs) (rv:Vals vs us) (g:HR X.K H G)
    (h:aGH xs G P O):(∃ a ds ys its,us=[.ref a]∧iG X.K H ds ys∧Vals ys its∧s.heap.IsList a its.toArray∧P ds)∨O:=by
  cases rx with
  | nil=>exact .inr h
  | cons r1 rr =>
    cases rr with
    | cons _ _=>cases r1 <;> exact .inr h
    | nil =>
      cases r1 with
      | ref a =>
        obtain ⟨u,rfl,ru⟩:=vals1 rv
        cases ru
        have q':(match bZ G a with
          | some ds=>P ds
          | none=>False):=h
        split at q'
        · rename_i ds e1
          obtain ⟨ys,hq,r1⟩:=gW g e1
          obtain ⟨its,rv',p,hz⟩:=I.list hq
          exact .inl ⟨a,ds,ys,its,rfl,r1,rv',p.isList,q'⟩
        · exact q'.elim
      | _=>exact .inr h
theorem int_list {s:Shared} {a:Addr} {zs:List (Int×Tok)} (p:s.heap.IsList a (zs.map fun p=>Value.int p.1 p.2).toArray):s.heap.IsList a (intItems zs.toArray):=by
  have:intItems zs.toArray=(zs.map fun p=>Value.int p.1 p.2).toArray:=by simp [intItems]
  rw [this];exact p
theorem aTN (hc:X.calm=true):fL X (.builtin "sum") aKB:=by
  intro pins s σ H xs vs us G R Q I rx rv g q k
  rcases aO1 I rx rv g q with ⟨a,ds,ys,its,rfl,r1,rv',p,ns,rfl,q'⟩ | z
  · obtain ⟨zs,rfl,e2⟩:=ints_of r1 rv'
    refine sum_intListG (I.ok.hd hc) (int_list p) fun h' tk t' kk=>?_
    have e3:preSum (numAt zs.toArray) zs.toArray.size=ns.sum:=by
      rw [preSum_eq,List.take_of_length_le (by simp)]
      rw [← e2]
    rw [e3]
    exact ⟨.int _,H,I.kept kk,⟨t',rfl⟩,k _ H _ G (.refl H) (.int _) g q'⟩
  · exact z.elim
def aBU:List D→Gp→oK→Prop:=fun xs G R=>aGH xs G (fun ds=>∃ ns:List Int,ds=ns.map D.int∧ns≠[]∧∀ M,M∈ns→(∀ a∈ns,a≤M)→R (.int M) G) (aKA xs G R)
def aj1:List D→Gp→oK→Prop:=fun xs G R=>aGH xs G (fun ds=>∃ ns:List Int,ds=ns.map D.int∧ns≠[]∧∀ M,M∈ns→(∀ a∈ns,M≤a)→R (.int M) G) (aK9 xs G R)
theorem aBV {zs:List (Int×Tok)} {ns:List Int} (e2:zs.map (·.1)=ns) {j:Nat} (h:j < zs.toArray.size):numAt zs.toArray j∈ns:=by
  rw [numAt_eq,← e2]
  exact getD_mem (by simpa using h)
theorem aBW {zs:List (Int×Tok)} {ns:List Int} (e2:zs.map (·.1)=ns) {a:Int} (h:a∈ns):∃ j,j < zs.toArray.size∧numAt zs.toArray j=a:=by
  rw [← e2] at h
  obtain ⟨j,hj,rfl⟩:=mem_getD h
  exact ⟨j,by simpa using hj,by rw [numAt_eq]⟩
theorem aYG (hc:X.calm=true):fL X (.builtin "max") aBU:=by
  intro pins s σ H xs vs us G R Q I rx rv g q k
  rcases aO1 I rx rv g q with ⟨a,ds,ys,its,rfl,r1,rv',p,ns,rfl,hne,q'⟩ | z
  · obtain ⟨zs,rfl,e2⟩:=ints_of r1 rv'
    have hsz:0 < zs.toArray.size:=by
      cases zs with
      | nil=>exact absurd e2.symm hne
      | cons _ _=>simp
    refine max_intList (I.ok.hd hc) (int_list p) hsz fun v h' tk hv kk=>?_
    obtain ⟨t,rfl⟩:=intItems_at hv
    obtain ⟨h1,h2⟩:=argBest_gt (numAt zs.toArray) (zs.toArray.size - 1)
    refine ⟨.int _,H,I.kept kk,⟨t,rfl⟩,k _ H _ G (.refl H) (.int _) g (q' _ (aBV e2 (by omega)) fun a ha=>?_)⟩
    obtain ⟨j,hj,rfl⟩:=aBW e2 ha
    exact h2 j (by omega)
  · exact aTK hc pins s σ H _ vs us G R Q I rx rv g z k
theorem aO2 (hc:X.calm=true):fL X (.builtin "min") aj1:=by
  intro pins s σ H xs vs us G R Q I rx rv g q k
  rcases aO1 I rx rv g q with ⟨a,ds,ys,its,rfl,r1,rv',p,ns,rfl,hne,q'⟩ | z
  · obtain ⟨zs,rfl,e2⟩:=ints_of r1 rv'
    have hsz:0 < zs.toArray.size:=by
      cases zs with
      | nil=>exact absurd e2.symm hne
      | cons _ _=>simp
    refine min_intList (I.ok.hd hc) (int_list p) hsz fun v h' tk hv kk=>?_
    obtain ⟨t,rfl⟩:=intItems_at hv
    obtain ⟨h1,h2⟩:=argBest_lt (numAt zs.toArray) (zs.toArray.size - 1)
    refine ⟨.int _,H,I.kept kk,⟨t,rfl⟩,k _ H _ G (.refl H) (.int _) g (q' _ (aBV e2 (by omega)) fun a ha=>?_)⟩
    obtain ⟨j,hj,rfl⟩:=aBW e2 ha
    exact h2 j (by omega)
  · exact aTJ hc pins s σ H _ vs us G R Q I rx rv g z k
end
end L2
namespace L2
open PySem PySem.Spec PyProof.Rows
def ok2 (G:Gp) (x y:D):Bool:=match x,y with
  | .ref p,.ref q=>(match bZ G p,bZ G q with
    | some xs,some ys=>xs.all (aO 17)&&ys.all (aO 17)
    | _,_=>false)
  | x,y=>aO 18 x&&aO 18 y
def eq2 (G:Gp) (x y:D):Bool:=match x,y with
  | .ref p,.ref q=>(match bZ G p,bZ G q with
    | some xs,some ys=>rN xs ys
    | _,_=>false)
  | x,y=>eqP x y
def aBX (G:Gp):List D→List D→Bool
  | x :: xs,y :: ys=>ok2 G x y&&aBX G xs ys
  | _,_=>true
def aBY (G:Gp):List D→List D→Bool
  | [],[]=>true
  | x :: xs,y :: ys=>eq2 G x y&&aBY G xs ys
  | _,_=>false
section
variable {X:Cx}
def aTO (G:Gp) (x y:D) (k:Bool→Prop):Prop:=match x,y with
  | .tup xs,.tup ys=>aBX G xs ys=true∧k (aBY G xs ys)
  | .ref a,.ref b=>(match bZ G a,bZ G b with
    | some xs,some ys=>aBX G xs ys=true∧k (aBY G xs ys)
    | _,_=>False)
  | _,_=>False
def aKC:R3:=fun x y G R=>aTO G x y fun b=>R (.bl b) G
def aKD:R3:=fun x y G R=>aTO G x y fun b=>R (.bl (!b)) G
def aBZ (x:D) (G:Gp) (f:Addr→List D→Prop):Prop:=match x with
  | .ref p=>(match G p with
    | some (.lst ds)=>f p ds
    | _=>False)
  | _=>False
theorem aC0 {K:Fg} {H:Hp} {x:D} {vx:V} {G:Gp} {f:Addr→List D→Prop} (rx:RD K H x vx) (g:HR K H G) (h:aBZ x G f):∃ p ds xs,x = .ref p∧vx = .ref p∧G p=some (.lst ds)∧H p=some (.lst xs)∧iG K H ds xs∧f p ds:=by
  unfold aBZ at h
  split at h
  · rename_i p
    split at h
    · rename_i ds e
      cases rx
      obtain ⟨xs,e1,r⟩:=g p _ e
      exact ⟨p,ds,xs,rfl,rfl,e,e1,r,h⟩
    · exact h.elim
  · exact h.elim
def aKE:RM3:=fun x xs G R=>match xs with
  | []=>aBZ x G fun p ds=>match ds[ds.length - 1]? with
    | some d=>R d (aQ G p (.lst ds.dropLast))
    | none=>False
  | _=>False
theorem acV {K:Fg} {H:Hp}:∀ {ds:List D} {xs:List V},iG K H ds xs→iG K H ds.dropLast xs.dropLast
  | _,_,.nil => .nil
  | _,_,.cons h .nil => .nil
  | _,_,.cons h (.cons h' r) => .cons h (acV (.cons h' r))
theorem aKF:ahK X "list.pop" aKE:=ahK.of aMM fun H x xs vx vs G R Q rx rs g q k=>by
  cases rs with
  | cons _ _=>exact False.elim q
  | nil =>
    obtain ⟨p,ds,ys,rfl,rfl,e,e1,r,q'⟩:=aC0 rx g q
    split at q'
    · rename_i d ed
      obtain ⟨v,ev,rv⟩:=r.get ed
      have hl:ds.length=ys.length:=r.length
      refine ⟨p,ys,v,rfl,rfl,e1,by rw [← hl];exact ev,fun _=>?_⟩
      have tt:Ts H (upd H p (.lst ys.dropLast)) := .turn e1 (fun _ z=>nomatch z) (fun _ _ z=>nomatch z)
      exact k _ _ _ _ tt (rv.mono tt) (g.turn (u := .lst ds.dropLast) tt ⟨_,aV,(acV r).mono tt⟩) q'
    · exact q'.elim
end
end L2
namespace L2
open PySem PySem.Spec PyProof.Rows
section
variable {X:Cx} {C:Addr} {bmB bmN:List Value} {B Bn newId nid initId inN:String} {x:Str} {np cpos:Pos} {e:Expr} {es:List Expr} {t:zQ}
def ax0 (C:Addr) (t:zQ):dX:=fun ρ G R=>t ρ G fun ds G1=>ds.length≤sizeLine∧∀ x,G1 x=none→R (.ref x) (aQ G1 x (.exn C))
theorem aC1 {pins:List (Addr×Obj)} {σ:St} {H:Hp} {s:Shared} {h':Heap} {x:Addr} {us:List Value} (I:Inv X pins σ H s) (hm:Heap.MadeExcOf s.heap h' x (.ref C) us) :
    ∃ o vs,H x=none∧Inv X pins σ (upd H x (.frz o (.ext (aaY C x)))) { s with heap:=h' }∧o.data = .fields vs∧vs[2]?=some .none:=by
  obtain ⟨t,e1,_,_⟩:=hm.there
  have nxH:H x=none:=ar8 I.hok hm.new
  refine ⟨{ cls := .ref C,data := .fields #[.ref t,.none,.none,.none,.bool false,.none] },#[.ref t,.none,.none,.none,.bool false,.none],nxH,?_,rfl,rfl⟩
  generalize ho:({ cls := .ref C,data := .fields #[.ref t,.none,.none,.none,.bool false,.none] }:Obj)=o at e1
  have sn:Same H (upd H x (.frz o (.ext (aaY C x)))):=cU nxH
  have nst:∀ b u,s.heap.get? b=some u→b≠x:=fun b u e z=>by subst z;rw [hm.new] at e;cases e
  refine I.call' (ch:=[]) (s':={ s with heap:=h' }) rfl ⟨fun b u e n _ _=>hm.keeps b u e,fun b u e n _ _=>⟨u.slots,hm.keeps b u e⟩,fun b u e n _=>by rw [dF (nst b u e)];exact n,fun b u e _=>⟨u,hm.keeps b u e⟩,fun b xs z=>sn _ _ z,fun b u v z=>sn _ _ z,fun b ps z=>⟨#[],by rw [Array.append_empty];exact sn _ _ z⟩⟩ (fun b u e=>?_) I.bare fun b z=>absurd z (by simp)
  by_cases hb:b=x
  · subst hb
    rw [aV] at e;cases e
    exact ⟨e1,⟨o,_,e1,by rw [← ho],by rw [← ho]⟩,⟨o,e1⟩,fun h1 h2 ⟨o1,w1,e1,e2,e3⟩ k=>⟨o1,w1,k _ e1,e2,e3⟩⟩
  · rw [dF hb] at e
    exact ((I.hok.kept hm.keeps) b u e).stay (fun _ _ _ z=>z) (fun c z=>sn _ _ z) fun c xs z=>sn _ _ z
theorem arJ {pins:List (Addr×Obj)} {σ:St} {H:Hp} {s:Shared} {us:List Value} {G:Gp} {R:oK} {Q:VK} (Fn:ExcBaseFacts Bn newId inN bmN) (hBn:bmB.contains (.type Bn)=true) (FB:ExcBaseFacts B nid initId bmB) (hq:PySem.W.excIn X.K C bmB newId=true) (I:Inv X pins σ H s) (g:HR X.K H G) (hl:us.length≤sizeLine) (q:∀ x,G x=none→R (.ref x) (aQ G x (.exn C)))
    (k:∀ v H' d G',Ts H H'→RD X.K H' d v→HR X.K H' G'→R d G'→Q v H'):wpAny (model X.prog X.w) X.A (call (.ref C) us) (EP X pins σ Q) X.xe s:=by
  obtain ⟨tl,N,nm,q',bs,hdct,sn,sub,ab,col,dd',k0,k1,k2,k3,k5,mN,hC,hN,hni,T⟩:=ai9 I.mod.kin hq
  obtain ⟨h,g0,d0,t0,os0⟩:=s
  refine wpAny_call_exc_subU (hrest:=hl) Fn hBn FB (T.keeps I.bk) (I.bk _ _ hC) (hN.keeps I.bk) hni fun h' x hm=>?_
  obtain ⟨o,vs,nx,J,d1,d2⟩:=aC1 I hm
  have sn:Same H (upd H x (.frz o (.ext (aaY C x)))):=cU nx
  exact ⟨.ref x,_,J,rfl,k _ _ _ _ (.same sn) (.ref x) (g.put (u := .exn C) nx ⟨o,vs,aV,d1,d2⟩) (q x (tH (K:=X.K) g nx (a6X (X:=X) J)))⟩
theorem aTP (Fn:ExcBaseFacts Bn newId inN bmN) (hBn:bmB.contains (.type Bn)=true) (FB:ExcBaseFacts B nid initId bmB) (hg:Gl X x) (hm:X.mg x=some (.ref C)) (hq:PySem.W.excIn X.K C bmB newId=true) (ha:PA3 X (e :: es) t) (hd:(x == ("__debug__" : Str))=false)
    (he:starEach (e :: es) X.env=(false,eval e X.env) :: starEach es X.env) (hpl:(backTo cpos (starEach es X.env)).any (·.1)=false):gG X (.Call (.Name x np) (e :: es) [] cpos) (ax0 C t):=by
  intro pins s σ H Q I h
  obtain ⟨ρ,G,R,sr,g,q,kk⟩:=h
  obtain ⟨tl,N,nm,q',bs,hdct,sn,sub,ab,col,dd',k0,k1,k2,k3,k5,mN,hC,hN,hni,T⟩:=ai9 I.mod.kin hq
  refine wpAny_Call_ofName (yU I hg hm ?_ hd)
  unfold callWith
  have hA:=ha cpos pins s σ H (fun vs H1=>Ts H H1∧∃ ds G1,iG X.K H1 ds vs∧HR X.K H1 G1∧ds.length≤sizeLine∧∀ x,G1 x=none→R (.ref x) (aQ G1 x (.exn C))) I ⟨ρ,G,_,sr,g,q,fun vs H1 ds G1 t1 r1 g1 q1=>⟨t1,ds,G1,r1,g1,q1.1,q1.2⟩⟩
  have hp2:(backTo cpos (starEach (e :: es) X.env)).any (·.1)=false:=by rw [he];show (false || (backTo cpos (starEach es X.env)).any (·.1))=false;rw [hpl];rfl
  rw [he] at hA hp2 ⊢
  refine wpAny_bind (wpAny_holding (Calls.evalArgs_plain (kY hA fun us s2 ⟨vs,H2,I2,r2,t1,ds,G1,r1,g1,hl,q1⟩=>wpAny_bind (wpAny_standAt ?_))))
  have hl2:us.length≤sizeLine:=by rw [← r2.length,← r1.length];exact hl
  simp only [hp2]
  obtain ⟨h0,g0,d0,t0,os0⟩:=s2
  refine wpAny_bind (wpAny_keeperOf_exc (I2.bk _ _ hC) ?_)
  refine wpAny_bind (kY (arJ Fn hBn FB hq I2 g1 hl2 q1 fun v H' d G' t3=>kk v H' d G' (t1.trans t3)) fun v s3 q3=>wpAny_bind (wpAny_holding (wpAny_point (wpAny_pure q3))))
theorem aO3 (Fn:ExcBaseFacts Bn newId inN bmN) (hBn:bmB.contains (.type Bn)=true) (FB:ExcBaseFacts B nid initId bmB) (hg:Gl X x) (hm:X.mg x=some (.ref C)) (hq:PySem.W.excIn X.K C bmB newId=true) (hd:(x == ("__debug__" : Str))=false):gG X (.Call (.Name x np) [] [] cpos) (ax0 C aH):=by
  intro pins s σ H Q I h
  obtain ⟨ρ,G,R,sr,g,⟨hl,q⟩,kk⟩:=h
  obtain ⟨tl,N,nm,q',bs,hdct,sn,sub,ab,col,dd',k0,k1,k2,k3,k5,mN,hC,hN,hni,T⟩:=ai9 I.mod.kin hq
  refine wpAny_Call_ofName (yU I hg hm ?_ hd)
  unfold callWith
  refine wpAny_bind (wpAny_holding (PySem.evalArgs_none (wpAny_bind (wpAny_standAt ?_))))
  obtain ⟨h0,g0,d0,t0,os0⟩:=s
  refine wpAny_bind (wpAny_keeperOf_exc (I.bk _ _ hC) ?_)
  refine wpAny_bind (kY (arJ (us:=[]) Fn hBn FB hq I g (Nat.zero_le _) q kk) fun v s3 q3=>wpAny_bind (wpAny_holding (wpAny_point (wpAny_pure q3))))
end
end L2
namespace L2
open PySem PySem.Spec PyProof.Rows
def aC2 (C:Addr) (f:Str) (x:D) (G:Gp) (R:oK):Prop:=match x with
  | .ref a=>(match G a with
    | some (.ins C' fs)=>C'=C∧(match fs.lookup f with
      | some d=>R d G
      | none=>False)
    | _=>False)
  | _=>False
def uK (C:Addr) (ta:dX) (f:Str):dX:=fun ρ G R=>ta ρ G fun x G1=>aC2 C f x G1 R
theorem aj2 {K:Fg} {H:Hp} {f:Str}:∀ {fs:List (Str×D)} {vs:List (Str×V)} {d:D},Two (fun p q=>p.1=q.1∧RD K H p.2 q.2) fs vs→fs.lookup f=some d→∃ v,vs.lookup f=some v∧RD K H d v
  | _,_,_,.nil,e=>by cases e
  | (g,x) :: fs,(g',y) :: vs,d,.cons h r,e=>by
    obtain ⟨rfl,h2⟩:=h
    unfold List.lookup at e ⊢
    split at e
    · rename_i q
      rw [q]
      cases e
      exact ⟨y,rfl,h2⟩
    · rename_i q
      rw [q]
      exact aj2 r e
def arK (f:Str) (d:D):List (Str×D)→List (Str×D)
  | []=>[(f,d)]
  | (g,x) :: r=>if g=f then (g,d) :: r else (g,x) :: arK f d r
theorem ax1 {K:Fg} {H:Hp} {f:Str} {d:D} {v:V} (h:RD K H d v):∀ {fs:List (Str×D)} {vs:List (Str×V)},Two (fun p q=>p.1=q.1∧RD K H p.2 q.2) fs vs→Two (fun p q=>p.1=q.1∧RD K H p.2 q.2) (arK f d fs) (a4X f v vs)
  | _,_,.nil => .cons ⟨rfl,h⟩ .nil
  | (g,x) :: fs,(g',y) :: vs,.cons q r=>by
    obtain ⟨rfl,q2⟩:=q
    unfold arK a4X
    by_cases c:g=f
    · rw [if_pos c,if_pos c]
      exact .cons ⟨rfl,h⟩ r
    · rw [if_neg c,if_neg c]
      exact .cons ⟨rfl,q2⟩ (ax1 h r)
section
variable {X:Cx} {o e value:Expr} {f:Str} {C:Addr} {pos pos':Pos} {ta tv:dX}
theorem aTQ (he:gG X e ta) (c:Cls X.K C) (n:uU X.K C f) (hb:attributeBase e f X.env (eval e X.env)=eval e X.env):gG X (.Attribute e f pos) (uK C ta f):=by
  refine PE.imp (aM7 he hb) fun σ H Q h=>?_
  obtain ⟨ρ,G,R,s,g,t,k⟩:=h
  refine ⟨ρ,G,_,s,g,t,fun v H1 x G1 t1 rx g1 t'=>?_⟩
  unfold aC2 at t'
  split at t'
  · rename_i a
    split at t'
    · rename_i C' fs e1
      obtain ⟨rfl,t'⟩:=t'
      split at t'
      · rename_i d e2
        obtain ⟨dx,vs,e3,r⟩:=g1 a _ e1
        obtain ⟨w,e4,rw⟩:=aj2 r e2
        cases rx
        exact ⟨a,_,dx,vs,w,rfl,e3,c,n,e4,k w H1 d G1 t1 rw g1 t'⟩
      · exact t'.elim
    · exact t'.elim
  · exact t'.elim
def arL (C:Addr) (f:Str) (x y:D) (F:oR) (ρ:aY) (G:Gp):Prop:=match x with
  | .ref a=>(match G a with
    | some (.ins C' fs)=>C'=C∧fs.length < 1000∧F.nx ρ (aQ G a (.ins C (arK f y fs)))
    | _=>False)
  | _=>False
def aeX (C:Addr) (ta tv:dX) (f:Str):cI:=fun F ρ G=>tv ρ G fun y G1=>ta ρ G1 fun x G2=>arL C f x y F ρ G2
theorem aO4 (ha:gG X o ta) (hv:gG X value tv) (c:Cls X.K C) (n:uU X.K C f) (hs:swapsWith value (some (.Attribute o f pos')) pos.line X.env=pure false):PS3 X (.Assign [.Attribute o f pos'] value pos) (aeX C ta tv f):=by
  refine PS.imp (aM8 ha hv hs) fun F σ H h=>?_
  obtain ⟨ρ,G,E,s,g,t,u⟩:=h
  refine ⟨ρ,G,_,s,g,t,fun y H1 d G1 t1 ry g1 t'=>?_⟩
  refine ⟨ρ,G1,_,s.mono t1,g1,t',fun v H2 x G2 t2 rx g2 t''=>?_⟩
  unfold arL at t''
  split at t''
  · rename_i a
    split at t''
    · rename_i C' fs e1
      obtain ⟨rfl,hl,t''⟩:=t''
      obtain ⟨dx,vs,e3,r⟩:=g2 a _ e1
      have ry2:=ry.mono t2
      have tt:Ts H2 (upd H2 a (.ins C' dx (a4X f y vs))):=Ts.turn e3 (fun _ z=>by cases z) (fun _ _ z=>by cases z)
      cases rx
      refine ⟨a,_,dx,vs,rfl,e3,c,n,by rw [← r.length];exact hl,u.nx ρ _ σ _ ((s.mono t1).mono t2 |>.mono tt) (HR.turn g2 tt ?_) t''⟩
      exact ⟨dx,_,aV,(ax1 ry2 r).imp fun _ _ q=>⟨q.1,q.2.mono tt⟩⟩
    · exact t''.elim
  · exact t''.elim
end
section
variable {X:Cx} {qt:Bool} {k:Nat} {f C:Addr} {fd:FuncData} {ps:List Str} {sp:zL} {EX:aY→bM} {x m:Str} {p pos apos:Pos} {o e:Expr} {es:List Expr} {t:zQ} {ta:dX} {dd:List D} {dvs:List V} {ds:List Value}
theorem arM {pins:List (Addr×Obj)} {σ:St} {H:Hp} {s:Shared} {Q Q':VK} {us:List Value} {vs:List V} {E:XK} (F:dH qt X.prog X.w X.K X.mg X.base (tQ X.prog X.w) k f fd ps (gB X.K sp)) (hr:oO qt k X.A) (hb:Binds X.K fd ps ds) (hd:Vals dvs ds)
    (hx:∀ e s',tQ X.prog X.w X.stack H s E e s'→X.xe e s')
    (I:Inv X pins σ H s) (r:Vals vs us) (h:gB X.K sp (vs++dvs) H Q E) (hQ:∀ v H',Ts H H'→Q v H'→Q' v H'):wpAny (model X.prog X.w) X.A (call (.ref f) us) (EP X pins σ Q') X.xe s:=by
  have hl:(us++ds).length=ps.length:=by rw [← (r.append hd).length];exact F.len _ _ _ _ h
  refine wpAny_call (codeAny_mono (F.run X.A X.stack s H ⟨us,[]⟩ (us++ds) (vs++dvs) Q E hr I.env0 (hb s us I.kIn hl) (r.append hd) h) fun r s' hq=>?_)
  cases r with
  | error e=>exact hx e s' hq
  | ok fl =>
    cases fl with
    | ret u =>
      obtain ⟨v,H',os,bare,un,hok,r,q⟩:=hq
      exact ⟨v,H',I.call' (ch:=[]) os un hok bare (fun b z=>absurd z (by simp)),r,hQ v H' ⟨un.tups,un.tG⟩ q⟩
    | next=>exact False.elim hq
    | brk=>exact False.elim hq
    | cont=>exact False.elim hq
def arN (C:Addr) (m:Str) (x:D) (G:Gp):Prop:=∃ a fs,x = .ref a∧G a=some (.ins C fs)∧fs.lookup m=none
def nA (C:Addr) (m:Str) (sp:zL) (dd:List D) (EX:aY→bM) (ta:dX) (t:zQ):dX:=fun ρ G R=>ta ρ G fun x G1=>arN C m x G1∧t ρ G1 fun ds G2=>sp (x :: (ds++dd)) G2 R (EX ρ)
theorem aj3 {K:Fg} {H:Hp} {f:Str}:∀ {fs:List (Str×D)} {vs:List (Str×V)},Two (fun p q=>p.1=q.1∧RD K H p.2 q.2) fs vs→fs.lookup f=none→vs.lookup f=none
  | _,_,.nil,e=>rfl
  | (g,x) :: fs,(g',y) :: vs,.cons h r,e=>by
    obtain ⟨rfl,h2⟩:=h
    unfold List.lookup at e ⊢
    split at e
    · cases e
    · rename_i q
      rw [q]
      exact aj3 r e
theorem aGI {pl:Sem Bool} (ho:gG X o ta) (c:Cls X.K C) (hm:Meth X.K C m f) (F:dH qt X.prog X.w X.K X.mg X.base (tQ X.prog X.w) k f fd ps (gB X.K sp)) (hr:oO qt k X.A) (hb:Binds X.K fd ps ds) (hd:Vals dvs ds) (hdd:∀ H,iG X.K H dd dvs) (hx:Cat X EX)
    (ha:PA3 X (e :: es) t) (hst:starEach (e :: es) X.env=(false,eval e X.env) :: starEach es X.env) (hpl:(backTo pos (starEach es X.env)).any (·.1)=false)
    (ht:eval (.Call (.Attribute o m apos) (e :: es) [] pos) X.env=(do
      let ov ← eval o X.env
      standAt apos.atName
      let (f,first) ← holding [ov] (getMethod ov m pl)
      callWith pos f first (backTo pos (starEach (e :: es) X.env)) (backToKw pos (keywordEach [] X.env)))) :
    gG X (.Call (.Attribute o m apos) (e :: es) [] pos) (nA C m sp dd EX ta t):=by
  intro pins s σ H Q I h
  obtain ⟨ρ,G,R,sr,g,q,kk⟩:=h
  refine PySem.W.methodCall_KW (pl:=pl) (kY (ho pins s σ H (fun v H1=>∃ d G1,Ts H H1∧RD X.K H1 d v∧HR X.K H1 G1∧arN C m d G1∧t ρ G1 fun ds G2=>sp (d :: (ds++dd)) G2 R (EX ρ)) I ⟨ρ,G,_,sr,g,q,fun v H1 d G1 t1 r1 g1 q1=>⟨d,G1,t1,r1,g1,q1⟩⟩) fun u s1 ⟨x,H1,I1,rx,d,G1,t1,r1,g1,⟨a,fs,ed,ea,el⟩,q1⟩=>?_) ht
  subst ed
  cases r1
  obtain rfl:u=Value.ref a:=rx
  obtain ⟨dx,vs,e3,r⟩:=g1 a _ ea
  refine aiL I1 e3 c hm (aj3 r el) ?_
  refine PySem.W.callWith_K (first:=[.ref a]) (h₀:=X.base) I.ok.mod.kin hm.kp (kY (ha pos pins s1 σ H1 (fun vs H2=>Ts H1 H2∧∃ ds G2,iG X.K H2 ds vs∧HR X.K H2 G2∧sp (.ref a :: (ds++dd)) G2 R (EX ρ)) I1 ⟨ρ,G1,_,sr.mono t1,g1,q1,fun vs H2 ds G2 t2 r2 g2 q2=>⟨t2,ds,G2,r2,g2,q2⟩⟩) fun us s2 ⟨vs,H2,I2,r,t2,ds2,G2,r2,g2,q2⟩=>⟨I2.kIn,?_⟩) hst hpl
  refine arM (us := .ref a :: us) (vs := .ref a :: vs) (E:=ab0 X.K (EX ρ)) F hr hb hd (fun e s' c=>hx.ar4 pins σ H2 s2 ρ e s' I2 ((sr.mono t1).mono t2) c) I2 (.cons rfl r) (Q:=fun v H'=>∃ d G',RD X.K H' d v∧HR X.K H' G'∧R d G') ⟨.ref a :: (ds2++dd),G2,R,EX ρ,.cons (.ref a) (r2.append (hdd H2)),g2,q2,fun v H' d G' r3 g3 q3=>⟨d,G',r3,g3,q3⟩,fun C H' G' g' q'=>⟨C,G',rfl,g',q'⟩⟩ fun v H' t3 ⟨d,G',r3,g3,q3⟩=>kk v H' d G' ((t1.trans t2).trans t3) r3 g3 q3
theorem aC3 {pl:Sem Bool} (ho:gG X o ta) (c:Cls X.K C) (hm:Meth X.K C m f) (F:dH qt X.prog X.w X.K X.mg X.base (tQ X.prog X.w) k f fd ps (gB X.K sp)) (hr:oO qt k X.A) (hb:Binds X.K fd ps ds) (hd:Vals dvs ds) (hdd:∀ H,iG X.K H dd dvs) (hx:Cat X EX)
    (ht:eval (.Call (.Attribute o m apos) [] [] pos) X.env=(do
      let ov ← eval o X.env
      standAt apos.atName
      let (f,first) ← holding [ov] (getMethod ov m pl)
      callWith pos f first (backTo pos (starEach [] X.env)) (backToKw pos (keywordEach [] X.env)))) :
    gG X (.Call (.Attribute o m apos) [] [] pos) (nA C m sp dd EX ta aH):=by
  intro pins s σ H Q I h
  obtain ⟨ρ,G,R,sr,g,q,kk⟩:=h
  refine PySem.W.methodCall_KW (pl:=pl) (kY (ho pins s σ H (fun v H1=>∃ d G1,Ts H H1∧RD X.K H1 d v∧HR X.K H1 G1∧arN C m d G1∧aH ρ G1 fun ds G2=>sp (d :: (ds++dd)) G2 R (EX ρ)) I ⟨ρ,G,_,sr,g,q,fun v H1 d G1 t1 r1 g1 q1=>⟨d,G1,t1,r1,g1,q1⟩⟩) fun u s1 ⟨x,H1,I1,rx,d,G1,t1,r1,g1,⟨a,fs,ed,ea,el⟩,q1⟩=>?_) ht
  subst ed
  cases r1
  obtain rfl:u=Value.ref a:=rx
  obtain ⟨dx,vs,e3,r⟩:=g1 a _ ea
  refine aiL I1 e3 c hm (aj3 r el) ?_
  refine PySem.W.callWith_K0 (first:=[.ref a]) I1.kIn hm.kp ?_
  refine arM (us:=[.ref a]) (vs:=[.ref a]) (E:=ab0 X.K (EX ρ)) F hr hb hd (fun e s' c=>hx.ar4 pins σ H1 s1 ρ e s' I1 (sr.mono t1) c) I1 (.cons rfl .nil) (Q:=fun v H'=>∃ d G',RD X.K H' d v∧HR X.K H' G'∧R d G') ⟨.ref a :: dd,G1,R,EX ρ,.cons (.ref a) (hdd H1),g1,q1,fun v H' d G' r3 g3 q3=>⟨d,G',r3,g3,q3⟩,fun C H' G' g' q'=>⟨C,G',rfl,g',q'⟩⟩ fun v H' t3 ⟨d,G',r3,g3,q3⟩=>kk v H' d G' (t1.trans t3) r3 g3 q3
def aeY (C:Addr) (sp:zL) (dd:List D) (EX:aY→bM) (t:zQ):dX:=fun ρ G R=>t ρ G fun ds G1=>∀ x,G1 x=none→sp (.ref x :: (ds++dd)) (aQ G1 x (.ins C [])) (fun v G2=>v = .non∧R (.ref x) G2) (EX ρ)
theorem amY {pins:List (Addr×Obj)} {σ:St} {H:Hp} {s:Shared} {G:Gp} {R:oK} {Q:VK} {us:List Value} {vs:List V} {ds2:List D} {ρ:aY} (M:Mk X.K C f) (F:dH qt X.prog X.w X.K X.mg X.base (tQ X.prog X.w) k f fd ps (gB X.K sp)) (hr:oO qt (k+1) X.A) (hb:Binds X.K fd ps ds) (hd:Vals dvs ds) (hdd:∀ H,iG X.K H dd dvs) (hx:Cat X EX)
    (I:Inv X pins σ H s) (sr:SR X.K H ρ σ) (g:HR X.K H G) (r:Vals vs us) (r2:iG X.K H ds2 vs) (h:∀ x,G x=none→sp (.ref x :: (ds2++dd)) (aQ G x (.ins C [])) (fun v G2=>v = .non∧R (.ref x) G2) (EX ρ))
    (hQ:∀ v H' d G',Ts H H'→RD X.K H' d v→HR X.K H' G'→R d G'→Q v H'):wpAny (model X.prog X.w) X.A (call (.ref C) us) (EP X pins σ Q) X.xe s:=by
  have n1:H (s.heap.objs.size+1)=none:=I.hok.fresh (Nat.le_succ _)
  have n0:H s.heap.objs.size=none:=I.hok.fresh (Nat.le_refl _)
  have ne:s.heap.objs.size+1≠s.heap.objs.size:=Nat.succ_ne_self _
  have I2:=Inv.made (C:=C) I
  have kl:X.K.lookup (s.heap.objs.size+1)=none:=by
    cases q:X.K.lookup (s.heap.objs.size+1) with
    | none=>rfl
    | some u=>have:=a6X I2 _ u q;rw [aV] at this;cases this
  have gn:G (s.heap.objs.size+1)=none:=tH (o := .ins C s.heap.objs.size []) g n1 fun b u e=>by
    by_cases c:b=s.heap.objs.size+1
    · subst c;rw [kl] at e;cases e
    · rw [dF c];exact a6X I b u e
  have t1:Ts H (upd H s.heap.objs.size (.own (s.heap.objs.size+1))) := .same (cU n0)
  have n1':upd H s.heap.objs.size (.own (s.heap.objs.size+1)) (s.heap.objs.size+1)=none:=by rw [dF ne];exact n1
  have t2:Ts (upd H s.heap.objs.size (.own (s.heap.objs.size+1))) (upd (upd H s.heap.objs.size (.own (s.heap.objs.size+1))) (s.heap.objs.size+1) (.ins C s.heap.objs.size [])) := .same (cU n1')
  have g1:HR X.K (upd H s.heap.objs.size (.own (s.heap.objs.size+1))) G:=g.same (cU n0)
  have g2:HR X.K (upd (upd H s.heap.objs.size (.own (s.heap.objs.size+1))) (s.heap.objs.size+1) (.ins C s.heap.objs.size [])) (aQ G (s.heap.objs.size+1) (.ins C [])):=g1.put n1' ⟨s.heap.objs.size,[],aV,.nil⟩
  have hq:gB X.K sp (V.ref (s.heap.objs.size+1) :: (vs++dvs)) (upd (upd H s.heap.objs.size (.own (s.heap.objs.size+1))) (s.heap.objs.size+1) (.ins C s.heap.objs.size [])) (fun v H'=>v = .non∧∃ G',HR X.K H' G'∧R (.ref (s.heap.objs.size+1)) G') (ab0 X.K (EX ρ)) :=
    ⟨.ref (s.heap.objs.size+1) :: (ds2++dd),_,_,EX ρ,.cons (.ref _) (((r2.mono t1).mono t2).append (hdd _)),g2,h _ gn,fun v H' d G' r3 g3 q3=>by
      obtain ⟨rfl,q3⟩:=q3
      cases r3
      exact ⟨rfl,G',g3,q3⟩,fun C H' G' g' q'=>⟨C,G',rfl,g',q'⟩⟩
  have rr:Vals (V.ref (s.heap.objs.size+1) :: (vs++dvs)) (Value.ref (s.heap.objs.size+1) :: (us++ds)) := .cons rfl (r.append hd)
  have hl:(Value.ref (s.heap.objs.size+1) :: us++ds).length=ps.length:=by
    have e:=rr.length
    rw [F.len _ _ _ _ hq] at e
    exact e.symm
  refine wpAny_call (aAV (f:=f) I.kIn M.makes M.init (beq_iff_eq.mp M.fn) (codeAny_mono (F.run _ X.stack _ _ ⟨Value.ref (s.heap.objs.size+1) :: us,[]⟩ (Value.ref (s.heap.objs.size+1) :: (us++ds)) _ _ _ (hr.make C us [])
    (I2.env0.make C us []) (hb _ (Value.ref (s.heap.objs.size+1) :: us) I2.kIn hl) rr hq) fun r s' hq'=>?_))
  cases r with
  | error e=>exact hx.ar4 pins σ _ _ ρ e s' I2 ((sr.mono t1).mono t2) hq'
  | ok fl =>
    cases fl with
    | ret u =>
      obtain ⟨v,H',os,bare,un,hok,rv,ev,G',g3,q3⟩:=hq'
      subst ev
      exact ⟨rv,⟨V.ref (s.heap.objs.size+1),H',I2.call' (ch:=[]) os un hok bare (fun b z=>absurd z (by simp)),rfl,hQ _ H' (.ref _) G' ((t1.trans t2).trans ⟨un.tups,un.tG⟩) (.ref _) g3 q3⟩⟩
    | next=>exact False.elim hq'
    | brk=>exact False.elim hq'
    | cont=>exact False.elim hq'
theorem aGJ (M:Mk X.K C f) (F:dH qt X.prog X.w X.K X.mg X.base (tQ X.prog X.w) k f fd ps (gB X.K sp)) (hr:oO qt (k+1) X.A) (hg:Gl X x) (hm:X.mg x=some (.ref C)) (hb:Binds X.K fd ps ds) (hd:Vals dvs ds) (hdd:∀ H,iG X.K H dd dvs) (hx:Cat X EX)
    (ha:PA3 X (e :: es) t) (hdb:(x == ("__debug__" : Str))=false) (he:starEach (e :: es) X.env=(false,eval e X.env) :: starEach es X.env) (hpl:(backTo pos (starEach es X.env)).any (·.1)=false) :
    gG X (.Call (.Name x p) (e :: es) [] pos) (aeY C sp dd EX t):=by
  intro pins s σ H Q I h
  obtain ⟨ρ,G,R,sr,g,q,kk⟩:=h
  refine wpAny_Call_Name_kw (yU I hg hm ?_ hdb)
  refine PySem.W.callWith_K (h₀:=X.base) I.ok.mod.kin M.kp (kY (ha pos pins s σ H (fun vs H1=>Ts H H1∧∃ ds G1,iG X.K H1 ds vs∧HR X.K H1 G1∧∀ x,G1 x=none→sp (.ref x :: (ds++dd)) (aQ G1 x (.ins C [])) (fun v G2=>v = .non∧R (.ref x) G2) (EX ρ)) I ⟨ρ,G,_,sr,g,q,fun vs H1 ds G1 t1 r1 g1 q1=>⟨t1,ds,G1,r1,g1,q1⟩⟩) fun us s1 ⟨vs,H1,I1,r,t1,ds,G1,r1,g1,q1⟩=>⟨I1.kIn,?_⟩) he hpl
  exact amY M F hr hb hd hdd hx I1 (sr.mono t1) g1 r r1 q1 fun v H' d G' t2=>kk v H' d G' (t1.trans t2)
theorem aC4 (M:Mk X.K C f) (F:dH qt X.prog X.w X.K X.mg X.base (tQ X.prog X.w) k f fd ps (gB X.K sp)) (hr:oO qt (k+1) X.A) (hg:Gl X x) (hm:X.mg x=some (.ref C)) (hb:Binds X.K fd ps ds) (hd:Vals dvs ds) (hdd:∀ H,iG X.K H dd dvs) (hx:Cat X EX)
    (hdb:(x == ("__debug__" : Str))=false):gG X (.Call (.Name x p) [] [] pos) (aeY C sp dd EX aH):=by
  intro pins s σ H Q I h
  obtain ⟨ρ,G,R,sr,g,q,kk⟩:=h
  refine wpAny_Call_Name_kw (yU I hg hm ?_ hdb)
  exact PySem.W.callWith_K0 I.kIn M.kp (amY (us:=[]) (vs:=[]) (ds2:=[]) M F hr hb hd hdd hx I sr g .nil .nil q fun v H' d G' t2=>kk v H' d G' t2)
end
end L2
namespace L2
open PySem PySem.Spec PyProof.Rows
section
variable {X:Cx} {pins:List (Addr×Obj)} {σ:St} {H:Hp} {s:Shared} {h':Heap}
end
def aTR (ta:zQ):TI3:=fun ρ G R=>ta ρ G fun xs G1=>match xs with
  | [.ref p,.ref q]=>(match bZ G1 p,bZ G1 q with
    | some xs,some ys=>R (.zip p q xs ys) G1
    | _,_=>False)
  | _=>False
section
variable {X:Cx} {es:List Expr} {kt:Nat} {pt:Pos}
end
section
variable {prog:Program} {w:World} {A:Around} {R:Result→Shared→Prop} {I:Addr} {fp wr:List Addr} {n:Nat} {P:Nat→Value→Prop} {St:Nat→Heap→Prop} {kw:List (Str×Value)}
end
def aC5 (x d:D) (G:Gp) (R:oK):Prop:=match x with
  | .ref p=>(match bZ G p with
    | some ds=>∃ ns:List Int,ds=ns.map D.int∧(ns=[]→R d G)∧∀ M,M∈ns→(∀ a∈ns,a≤M)→R (.int M) G
    | none=>False)
  | _=>False
def aTS (te td:dX):dX:=fun ρ G R=>te ρ G fun x G1=>td ρ G1 fun d G2=>aC5 x d G2 R
section
variable {X:Cx} {x:Str} {p pos kp:Pos} {e d:Expr} {te td:dX}
end
end L2
namespace L2
open PySem PySem.Spec PyProof.Rows
def aC6:D→Option Key
  | .int i=>some (.inl i)
  | .str x=>some (.inr x)
  | _=>none
def aj4:List D→Option (List Key)
  | []=>some []
  | d :: r=>match aC6 d,aj4 r with
    | some k,some ks=>some (k :: ks)
    | _,_=>none
def ahL:D→Option DK
  | .int i=>some (.inl (.inl i))
  | .str x=>some (.inl (.inr x))
  | .tup ds=>(match aj4 ds with
    | some ks=>some (.inr ks)
    | none=>none)
  | _=>none
def a85:DK→Bool
  | .inl _=>false
  | .inr _=>true
section
variable {κ:Type} [DecidableEq κ] {α:Type}
def bD:List (κ×α)→κ→Option α
  | [],_=>none
  | p :: r,k=>if p.1=k then some p.2 else bD r k
def oN (kvs:List (κ×α)) (k:κ) (v:α):List (κ×α):=if (bD kvs k).isSome=true then kvs.map (fun kv=>if kv.1=k then (kv.1,v) else kv) else kvs++[(k,v)]
def tR (kvs:List (κ×α)) (k:κ):List (κ×α):=kvs.filter fun kv=>!decide (kv.1=k)
end
theorem ax2 {K:Fg} {H:Hp} {d:D} {v:V} {k:Key} (r:RD K H d v) (e:aC6 d=some k):v=kV k:=by
  cases r <;> first
    | (cases e;rfl)
    | cases e
theorem arO {K:Fg} {H:Hp}:∀ {ds:List D} {vs:List V} {ks:List Key},iG K H ds vs→aj4 ds=some ks→vs=ks.map kV
  | _,_,_,.nil,e=>by cases e;rfl
  | d :: ds,v :: vs,ks,.cons h r,e=>by
    unfold aj4 at e
    split at e
    · rename_i k ks' e1 e2
      cases e
      rw [ax2 h e1,arO r e2]
      rfl
    · cases e
abbrev a5D {κ:Type} (K:Fg) (H:Hp) (f:κ→DK):List (DK×D)→List (κ×V)→Prop:=Two fun p q=>p.1=f q.1∧RD K H p.2 q.2
section
variable {κ:Type} [DecidableEq κ] {K:Fg} {H:Hp} {f:κ→DK}
theorem val_two (hf:∀ a b,f a=f b→a=b) {k:κ}:∀ {kvs:List (DK×D)} {xs:List (κ×V)},a5D K H f kvs xs→(∀ d,bD kvs (f k)=some d→∃ v,a7S xs k=some v∧RD K H d v)∧(bD kvs (f k)=none→a7S xs k=none)
  | _,_,.nil=>⟨fun d e=>(nomatch e),fun _=>rfl⟩
  | p :: kvs,q :: xs,.cons h r=>by
    obtain ⟨h1,h2⟩:=h
    by_cases c:q.1=k
    · have c2:p.1=f k:=by rw [h1,c]
      unfold bD
      rw [if_pos c2,a7Y c]
      exact ⟨fun d e=>by cases e;exact ⟨_,rfl,h2⟩,fun e=>(nomatch e)⟩
    · have c2:¬ p.1=f k:=fun z=>c (hf _ _ (h1.symm.trans z))
      unfold bD
      rw [if_neg c2,a7Z c]
      exact val_two hf r
theorem aC7 (hf:∀ a b,f a=f b→a=b) {k:κ} {kvs:List (DK×D)} {xs:List (κ×V)} (t:a5D K H f kvs xs):(bD kvs (f k)).isSome=(a7S xs k).isSome:=by
  have z:=val_two hf (k:=k) t
  cases e:bD kvs (f k) with
  | none=>rw [z.2 e];rfl
  | some d=>obtain ⟨v,e2,_⟩:=z.1 d e;rw [e2];rfl
theorem ax3 {g:DK×D→DK×D} {h:κ×V→κ×V} (gh:∀ p q,p.1=f q.1∧RD K H p.2 q.2→(g p).1=f (h q).1∧RD K H (g p).2 (h q).2):∀ {kvs:List (DK×D)} {xs:List (κ×V)},a5D K H f kvs xs→a5D K H f (kvs.map g) (xs.map h)
  | _,_,.nil => .nil
  | _,_,.cons z r => .cons (gh _ _ z) (ax3 gh r)
theorem arP {p:DK×D} {q:κ×V} (z:p.1=f q.1∧RD K H p.2 q.2):∀ {kvs:List (DK×D)} {xs:List (κ×V)},a5D K H f kvs xs→a5D K H f (kvs++[p]) (xs++[q])
  | _,_,.nil => .cons z .nil
  | _,_,.cons y r => .cons y (arP z r)
theorem acW (hf:∀ a b,f a=f b→a=b) {k:κ} {d:D} {v:V} (rd:RD K H d v) {kvs:List (DK×D)} {xs:List (κ×V)} (t:a5D K H f kvs xs):a5D K H f (oN kvs (f k) d) (putK xs k v):=by
  unfold oN putK
  rw [aiM,aC7 hf t]
  split
  · refine ax3 (fun p q ⟨h1,h2⟩=>?_) t
    by_cases c:q.1=k
    · rw [if_pos (show p.1=f k by rw [h1,c]),if_pos c]
      exact ⟨h1,rd⟩
    · rw [if_neg (show ¬ p.1=f k from fun z=>c (hf _ _ (h1.symm.trans z))),if_neg c]
      exact ⟨h1,h2⟩
  · exact arP (p:=(f k,d)) (q:=(k,v)) ⟨rfl,rd⟩ t
end
theorem yZ (a b:Key) (h:(Sum.inl a:DK) = .inl b):a=b:=by cases h;rfl
theorem w5 (a b:List Key) (h:(Sum.inr a:DK) = .inr b):a=b:=by cases h;rfl
def uL (x y:D) (G:Gp) (P:Addr→Bool→List (DK×D)→DK→Prop):Prop:=match x with
  | .ref a=>(match G a,ahL y with
    | some (.dU t kvs),some k=>a85 k=t∧P a t kvs k
    | _,_=>False)
  | _=>False
def aj5 (K:Fg) (H:Hp) (a:Addr) (vy:V) (kvs:List (DK×D)) (k:DK):Prop :=
  (∃ k' xs,k = .inl k'∧H a=some (.dK xs)∧a5D K H .inl kvs xs∧vy=kV k')∨∃ ks xs b,k = .inr ks∧H a=some (.dT xs)∧a5D K H .inr kvs xs∧vy = .ref b∧H b=some (.tup (ks.map kV))
theorem aC8 {K:Fg} {H:Hp} {y:D} {vy:V} {k:DK} (ry:RD K H y vy) (e:ahL y=some k):(∃ k',k = .inl k'∧vy=kV k')∨∃ ks b,k = .inr ks∧vy = .ref b∧H b=some (.tup (ks.map kV)):=by
  cases ry with
  | int i=>cases e;exact .inl ⟨_,rfl,rfl⟩
  | str x=>cases e;exact .inl ⟨_,rfl,rfl⟩
  | @tup a xs ds hq r e0 =>
    have e':(match aj4 ds with
      | some ks=>some (Sum.inr ks:DK)
      | none=>none)=some k:=e
    split at e'
    · rename_i ks e1
      cases e'
      have:=arO r e1
      subst this
      exact .inr ⟨ks,a,rfl,rfl,e0⟩
    · cases e'
  | _=>cases e
theorem wN {K:Fg} {H:Hp} {x y:D} {vx vy:V} {G:Gp} {P:Addr→Bool→List (DK×D)→DK→Prop} (rx:RD K H x vx) (ry:RD K H y vy) (g:HR K H G) (h:uL x y G P) :
    ∃ a kvs k,x = .ref a∧vx = .ref a∧G a=some (.dU (a85 k) kvs)∧ahL y=some k∧P a (a85 k) kvs k∧aj5 K H a vy kvs k:=by
  unfold uL at h
  split at h
  · rename_i a
    split at h
    · rename_i t kvs k e1 e2
      obtain ⟨rfl,h⟩:=h
      cases rx
      refine ⟨a,kvs,k,rfl,rfl,e1,e2,h,?_⟩
      rcases g a _ e1 with ⟨z,xs,e3,r⟩ | ⟨z,xs,e3,r⟩
      · rcases aC8 ry e2 with ⟨k',rfl,rfl⟩ | ⟨ks,b,rfl,_⟩
        · exact .inl ⟨k',xs,rfl,e3,r,rfl⟩
        · cases z
      · rcases aC8 ry e2 with ⟨k',rfl,rfl⟩ | ⟨ks,b,rfl,rfl,eb⟩
        · cases z
        · exact .inr ⟨ks,xs,b,rfl,e3,r,rfl,eb⟩
    · exact h.elim
  · exact h.elim
theorem aj5.get {K:Fg} {H:Hp} {a:Addr} {vy:V} {kvs:List (DK×D)} {k:DK} (h:aj5 K H a vy kvs k):(∀ d,bD kvs k=some d→∃ v,acO H a vy (some v)∧RD K H d v)∧(bD kvs k=none→acO H a vy none):=by
  rcases h with ⟨k',xs,rfl,e,r,rfl⟩ | ⟨ks,xs,b,rfl,e,r,rfl,eb⟩
  · have z:=val_two yZ (k:=k') r
    exact ⟨fun d e2=>(z.1 d e2).elim fun v q=>⟨v,by rw [← q.1];exact .k e,q.2⟩,fun e2=>by rw [← z.2 e2];exact .k e⟩
  · have z:=val_two w5 (k:=ks) r
    exact ⟨fun d e2=>(z.1 d e2).elim fun v q=>⟨v,by rw [← q.1];exact .t e eb,q.2⟩,fun e2=>by rw [← z.2 e2];exact .t e eb⟩
theorem aj5.any {K:Fg} {H:Hp} {a:Addr} {vy:V} {kvs:List (DK×D)} {k:DK} (h:aj5 K H a vy kvs k):∃ o,acO H a vy o∧o.isSome=(bD kvs k).isSome∧∀ d v,RD K H d v→RD K H ((bD kvs k).getD d) (o.getD v):=by
  have z:=h.get
  cases e:bD kvs k with
  | none=>exact ⟨none,z.2 e,rfl,fun d v r=>r⟩
  | some d=>obtain ⟨v,g,r⟩:=z.1 d e;exact ⟨some v,g,rfl,fun _ _ _=>r⟩
theorem aj5.put {K:Fg} {H:Hp} {G:Gp} {a:Addr} {vy v:V} {d:D} {kvs:List (DK×D)} {k:DK} (g:HR K H G) (h:aj5 K H a vy kvs k) (rv:RD K H d v) (hl:kvs.length < sizeLine):∃ H',aqT H a vy v H'∧Ts H H'∧HR K H' (aQ G a (.dU (a85 k) (oN kvs k d))):=by
  rcases h with ⟨k',xs,rfl,e,r,rfl⟩ | ⟨ks,xs,b,rfl,e,r,rfl,eb⟩
  · have tt:Ts H (upd H a (.dK (putK xs k' v))) := .turn e (fun _ z=>nomatch z) (fun _ _ z=>nomatch z)
    exact ⟨_,.k e (by rw [← r.length];exact hl),tt,g.turn (u := .dU false _) tt (.inl ⟨rfl,_,aV,(acW yZ rv r).imp fun _ _ q=>⟨q.1,q.2.mono tt⟩⟩)⟩
  · have tt:Ts H (upd H a (.dT (putK xs ks v))) := .turn e (fun _ z=>nomatch z) (fun _ _ z=>nomatch z)
    exact ⟨_,.t e eb (by rw [← r.length];exact hl),tt,g.turn (u := .dU true _) tt (.inr ⟨rfl,_,aV,(acW w5 rv r).imp fun _ _ q=>⟨q.1,q.2.mono tt⟩⟩)⟩
def a5E:R3:=fun x y G R=>uL x y G fun _ _ kvs k=>match bD kvs k with
  | some d=>R d G
  | none=>False
def arQ:R3:=fun x y G R=>uL y x G fun _ _ kvs k=>R (.bl (bD kvs k).isSome) G
def aC9:R3:=fun x y G R=>uL y x G fun _ _ kvs k=>R (.bl (!(bD kvs k).isSome)) G
section
variable {X:Cx} {o i value e f:Expr} {to ti tv te tf:dX} {pos pos' apos cpos:Pos}
theorem aTT (hu:X.A.units+64 < cLine) (ho:gG X o to) (hi:gG X i ti) (hs:aMD i):gG X (.Subscript o i pos) (aN a5E to ti):=by
  refine PE.imp (aFB (by omega) ho hi hs) fun σ H Q h=>?_
  obtain ⟨ρ,G,R,s,g,t,k⟩:=h
  refine ⟨ρ,G,_,s,g,t,fun vx H1 x G1 t1 rx g1 t'=>?_⟩
  refine ⟨ρ,G1,_,s.mono t1,g1,t',fun vy H2 y G2 t2 ry g2 t''=>?_⟩
  obtain ⟨a,kvs,kk,rfl,rfl,e1,_,q,dd⟩:=wN (rx.mono t2) ry g2 t''
  split at q
  · rename_i d e2
    obtain ⟨v,gg,rv⟩:=dd.get.1 d e2
    exact ⟨a,v,rfl,gg,k v H2 d G2 (t1.trans t2) rv g2 q⟩
  · exact q.elim
theorem aTU (hu:X.A.units+64 < cLine):yV X (compareOp .In) arQ:=aiT fun pins s σ H x y vx vy u v G R Q I rx ry ru rv g q k=>by
  obtain ⟨a,kvs,kk,rfl,rfl,e1,_,q,dd⟩:=wN ry rx g q
  obtain ⟨o,gg,eo,_⟩:=dd.any
  obtain rfl:v=Value.ref a:=rv
  exact aX4 (by omega) I gg ru fun s' I'=>⟨.bl o.isSome,H,I',rfl,k _ H (.bl _) G (.refl H) (.bl _) g (by rw [eo];exact q)⟩
theorem aO5 (hu:X.A.units+64 < cLine):yV X (compareOp .NotIn) aC9:=aiT fun pins s σ H x y vx vy u v G R Q I rx ry ru rv g q k=>by
  obtain ⟨a,kvs,kk,rfl,rfl,e1,_,q,dd⟩:=wN ry rx g q
  obtain ⟨o,gg,eo,_⟩:=dd.any
  obtain rfl:v=Value.ref a:=rv
  exact aF9 (by omega) I gg ru fun s' I'=>⟨.bl (!o.isSome),H,I',rfl,k _ H (.bl _) G (.refl H) (.bl _) g (by rw [eo];exact q)⟩
def ax4 (x y v:D) (F:oR) (ρ:aY) (G:Gp):Prop:=uL x y G fun a t kvs k=>kvs.length < sizeLine∧F.nx ρ (aQ G a (.dU t (oN kvs k v)))
def aj6 (to ti tv:dX):cI:=fun F ρ G=>tv ρ G fun v G1=>to ρ G1 fun x G2=>ti ρ G2 fun y G3=>ax4 x y v F ρ G3
theorem aO6 (hu:X.A.units+64 < cLine) (ho:gG X o to) (hi:gG X i ti) (hv:gG X value tv) (hs:swapsWith value (some (.Subscript o i pos')) pos.line X.env=pure false):PS3 X (.Assign [.Subscript o i pos'] value pos) (aj6 to ti tv):=by
  refine PS.imp (aFC (by omega) ho hi hv hs) fun F σ H h=>?_
  obtain ⟨ρ,G,E,s,g,t,u⟩:=h
  refine ⟨ρ,G,_,s,g,t,fun v H1 d G1 t1 rv g1 t'=>?_⟩
  refine ⟨ρ,G1,_,s.mono t1,g1,t',fun vx H2 x G2 t2 rx g2 t''=>?_⟩
  refine ⟨ρ,G2,_,s.mono (t1.trans t2),g2,t'',fun vy H3 y G3 t3 ry g3 t4=>?_⟩
  obtain ⟨a,kvs,kk,rfl,rfl,e1,_,⟨hl,q⟩,dd⟩:=wN (rx.mono t3) ry g3 t4
  obtain ⟨H4,pp,tt,g4⟩:=dd.put g3 (rv.mono (t2.trans t3)) hl
  exact ⟨a,H4,rfl,pp,u.nx ρ _ σ _ (s.mono (((t1.trans t2).trans t3).trans tt)) g4 q⟩
def a2O (x:D) (G:Gp):Prop:=match x with
  | .ref a=>(match G a with
    | some (.dU _ _)=>True
    | _=>False)
  | _=>False
theorem amZ {K:Fg} {H:Hp} {G:Gp} {x:D} {vx:V} (rx:RD K H x vx) (g:HR K H G) (h:a2O x G):∃ a,x = .ref a∧vx = .ref a∧IsD H a:=by
  unfold a2O at h
  split at h
  · rename_i a
    split at h
    · rename_i t kvs e
      cases rx
      rcases g a _ e with ⟨_,xs,e2,_⟩ | ⟨_,xs,e2,_⟩
      · exact ⟨a,rfl,rfl,.inl ⟨xs,.inl e2⟩⟩
      · exact ⟨a,rfl,rfl,.inr ⟨xs,.inl e2⟩⟩
    · exact h.elim
  · exact h.elim
def a1B (to te tf:dX):dX:=fun ρ G R=>to ρ G fun x G1=>a2O x G1∧te ρ G1 fun y G2=>tf ρ G2 fun z G3=>uL x y G3 fun _ _ kvs k=>R ((bD kvs k).getD z) G3
theorem aGK (hu:X.A.units+64 < cLine) (ho:gG X o to) (he:gG X e te) (hf:gG X f tf) (m:M2 X o "get" apos e f cpos):gG X (.Call (.Attribute o "get" apos) [e,f] [] cpos) (a1B to te tf):=by
  refine PE.imp (aAY (by omega) ho he hf m) fun σ H Q h=>?_
  obtain ⟨ρ,G,R,s,g,t,k⟩:=h
  refine ⟨ρ,G,_,s,g,t,fun vx H1 x G1 t1 rx g1 t'=>?_⟩
  obtain ⟨isd,t'⟩:=t'
  obtain ⟨a,rfl,rfl,ia⟩:=amZ rx g1 isd
  refine ⟨a,rfl,ia,?_⟩
  refine ⟨ρ,G1,_,s.mono t1,g1,t',fun vy H2 y G2 t2 ry g2 t''=>?_⟩
  refine ⟨ρ,G2,_,s.mono (t1.trans t2),g2,t'',fun vz H3 z G3 t3 rz g3 t4=>?_⟩
  obtain ⟨a',kvs,kk,e,_,e1,_,q,dd⟩:=wN (rx.mono (t2.trans t3)) (ry.mono t3) g3 t4
  cases e
  obtain ⟨o,gg,eo,hd⟩:=dd.any
  exact ⟨o,gg,k _ H3 _ G3 ((t1.trans t2).trans t3) (hd z vz rz) g3 q⟩
end
end L2
namespace L2
open PySem PySem.Spec PyProof.Rows
section
variable {prog:Program} {w:World} {K:Type} [DecidableEq K] {knd:HeapKind prog w K} {A:Around} {E:Value→Shared→Prop} {s:Shared} {d a:Addr} {k:K} {xs:List (K×Addr×Value)}
theorem aO7 {xs:List (K×Addr×Value)} {o:Obj} {es ep} {v:Value} (hkey:knd.is s.heap k a) (ho:s.heap.get? d=some o) (hc:o.ExactDict) (hd:o.data = .dict es ep) (he:es.toList=xs.map (entryOfKey knd)) (his:∀ x∈xs,knd.is s.heap x.1 x.2.1) (hn:(xs.map (·.1)).Nodup) (hno:∀ (j:Nat) (p:Addr×Value),xs[j]?≠some (k,p)) :
    (s.heap.update d (Obj.mapDictKeys (·.push ⟨knd.hash k,.ref a,v⟩))).DictOfH knd d (storedH xs k a v):=by
  have nk:k ∉ xs.map (·.1):=not_mem_keys_of_get hno
  refine ⟨_,_,ep+1,Heap.get?_update_self _ ho (Obj.isFreed_of_dict (Obj.data_mapDictKeys hd _)),hc.mapDictKeys _,Obj.data_mapDictKeys hd _,?_,?_,?_⟩ <;> rw [storedH_new (atKey_none_of_get hno)]
  · simp [he,entryOfKey]
  · intro x hx;rcases List.mem_append.mp hx with hx | hx
    · exact knd.keeps (his x hx) ho hd (Heap.SameBut.update ..)
    · rw [List.mem_singleton] at hx;subst hx
      exact knd.keeps hkey ho hd (Heap.SameBut.update ..)
  · rw [List.map_append,List.nodup_append];refine ⟨hn,by simp,fun x hx y hy e=>?_⟩
    rw [List.map_singleton,List.mem_singleton] at hy
    exact nk (by rw [← show y=k from hy,← e];exact hx)
theorem aO8 {v:Value} {Q:Value→Shared→Prop} (hu:knd.room A) (hkey:knd.is s.heap k a) (hm:s.heap.DictOfH knd d xs) (hsz:xs.length≤sizeLine)
    (h1:∀ p,atKey xs k=some p→Q p.2 { s with toks:=s.toks+knd.draws k })
    (h2:atKey xs k=none→∀ h',h'.DictOfH knd d (storedH xs k a v)→Heap.SameBut d s.heap h'→Q v { s with heap:=h',toks:=s.toks+knd.draws k }):wpAny (model prog w) A (dictSetDefault d (.ref a) v) Q E s:=by
  obtain ⟨o,es,ep,ho,hc,hd,he,his,hn⟩:=hm
  unfold dictSetDefault
  refine wpAny_holding (wpAny_bind (knd.pyHash hu hkey (wpAny_bind (wpAny_dictFind_heap (s:={ s with toks:=s.toks+knd.draws k }) hu hkey ho hd he his hn ?_ ?_))))
  · intro hno
    refine wpAny_bind (wpAny_rule (wpAny_bind (wpAny_updateDictKeys (s:={ s with toks:=s.toks+knd.draws k }) ho hd (wpAny_pure (h2 (atKey_none_of_get hno) _ (aO7 hkey ho hc hd he his hn hno) (Heap.SameBut.update ..))) (hz:=by have e:=size_of_entries he;omega))))
  · intro j p hj
    refine wpAny_bind (wpAny_dictEntries (s:={ s with toks:=s.toks+knd.draws k }) ho hd ?_);rw [entry_at he j,hj]
    exact wpAny_bind (wpAny_rule (wpAny_pure (h1 p (atKey_of_get hn hj))))
theorem alN {v:Value} {Q:Value→Shared→Prop} (hu:knd.room A.in1) (hkey:knd.is s.heap k a) (hs:(d == sysModules)=false) (hm:s.heap.DictOfH knd d xs) (hsz:xs.length≤sizeLine)
    (h1:∀ p,atKey xs k=some p→Q p.2 { s with toks:=s.toks+knd.draws k })
    (h2:atKey xs k=none→∀ h',h'.DictOfH knd d (storedH xs k a v)→Heap.SameBut d s.heap h'→Q v { s with heap:=h',toks:=s.toks+knd.draws k }):wpAny (model prog w) A (call (.builtin "dict.setdefault") [.ref d,.ref a,v]) Q E s:=by
  refine call_meetsIn (S:=fun A' R s'=>knd.room A'.in1∧s'=s∧(∀ p,atKey xs k=some p→R (.ok (.ret p.2)) { s with toks:=s.toks+knd.draws k })∧(atKey xs k=none→∀ h',h'.DictOfH knd d (storedH xs k a v)→Heap.SameBut d s.heap h'→R (.ok (.ret v)) { s with heap:=h',toks:=s.toks+knd.draws k })) PySem.F.slot_dict_setdefault hm.typeIs PySem.F.entry_dict_setdefault (PySem.F.args_dict_setdefault_3 _ _ _) (.of_wp fun A' R s' ⟨hu',e,g1,g2⟩=>?_) ⟨hu,rfl,h1,h2⟩
  subst e
  unfold Builtin.«dict.setdefault»;refine wpAny_bind ?_
  unfold Builtin.Dict.keyAndDefault;refine wpAny_bind (wpAny_notOrdered_dict hm.typeIs ?_)
  show wpAny _ _ (pure (d,Value.ref a,some v)) _ _ _;refine wpAny_pure ?_
  show wpAny _ _ (if (d == sysModules)=true then _ else (dictSetDefault d (.ref a) v >>= _)) _ _ _;rw [if_neg (by rw [hs];exact Bool.false_ne_true)]
  exact wpAny_bind (aO8 hu' hkey hm hsz (fun p hp=>wpAny_pure ⟨p.2,rfl,g1 p hp⟩) fun hn h' hm' hs'=>wpAny_pure ⟨v,rfl,g2 hn h' hm' hs'⟩)
def wO (xs:List (K×Addr×Value)) (k:K):List (K×Addr×Value):=xs.filter fun x=>decide (x.1≠k)
theorem arR {xs:List (K×Addr×Value)} (hn:(xs.map (·.1)).Nodup) {j:Nat} {p:Addr×Value} (hj:xs[j]?=some (k,p)):wO xs k=xs.eraseIdx j:=by
  induction xs generalizing j with
  | nil=>simp at hj
  | cons x r ih =>
    rw [List.map_cons,List.nodup_cons] at hn
    cases j with
    | zero =>
      simp at hj;subst hj
      have:∀ y∈r,decide (y.1≠k)=true:=fun y hy=>by
        simp only [decide_eq_true_eq]
        intro e
        exact hn.1 (List.mem_map.mpr ⟨y,hy,e⟩)
      rw [wO,List.filter_cons,if_neg (by simp),List.filter_eq_self.mpr this]
      rfl
    | succ j =>
      have hj':r[j]?=some (k,p):=by simpa using hj
      have ne:x.1≠k:=fun e=>hn.1 (by rw [e];exact List.mem_map.mpr ⟨(k,p),List.mem_of_getElem? hj',rfl⟩)
      have:=ih hn.2 hj'
      simp [wO,List.filter_cons,ne] at this ⊢
      exact this
theorem aGL {p:Addr×Value} {Q:Option DictEntry→Shared→Prop} (hu:knd.room A) (hkey:knd.is s.heap k a) (hm:s.heap.DictOfH knd d xs) (hsz:xs.length≤sizeLine) (hp:atKey xs k=some p)
    (h:∀ h' e,e.key = .ref p.1→e.val=p.2→h'.DictOfH knd d (wO xs k)→Heap.SameBut d s.heap h'→Q (some e) { s with heap:=h',toks:=s.toks+knd.draws k }):wpAny (model prog w) A (Builtin.Dict.takeOut d (.ref a)) Q E s:=by
  obtain ⟨o,es,ep,ho,hc,hd,he,his,hn⟩:=hm
  unfold Builtin.Dict.takeOut
  refine wpAny_holding (wpAny_bind (knd.pyHash hu hkey (wpAny_bind (wpAny_dictFind_heap (s:={ s with toks:=s.toks+knd.draws k }) hu hkey ho hd he his hn ?_ ?_))))
  · intro hno;rw [atKey_none_of_get hno] at hp;cases hp
  · intro j q hj
    rw [atKey_of_get hn hj] at hp;cases hp
    refine wpAny_bind (wpAny_dictEntries (s:={ s with toks:=s.toks+knd.draws k }) ho hd ?_);rw [entry_at he j,hj]
    refine wpAny_bind (wpAny_updateDictKeys (s:={ s with toks:=s.toks+knd.draws k }) ho hd (wpAny_pure (h _ _ rfl rfl ⟨_,_,ep+1,Heap.get?_update_self _ ho (Obj.isFreed_of_dict (Obj.data_mapDictKeys hd _)),hc.mapDictKeys _,Obj.data_mapDictKeys hd _,?_,?_,?_⟩ (Heap.SameBut.update ..))) (hz:=by have e:=size_of_entries he;omega) (hf:=?_))
    · rw [arR hn hj]
      have hjl:j < es.size:=by rw [size_of_entries he];exact (List.getElem?_eq_some_iff.mp hj).1
      have em:∀ (l:List (K×Addr×Value)) (j:Nat),(l.map (entryOfKey knd)).eraseIdx j=(l.eraseIdx j).map (entryOfKey knd):=by
        intro l
        induction l with
        | nil=>intro j;rfl
        | cons x r ih=>intro j;cases j with
          | zero=>rfl
          | succ j=>simp [ih]
      simp [Array.eraseIdxIfInBounds,hjl,he,em]
    · intro x hx
      exact knd.keeps (his x (List.mem_filter.mp hx).1) ho hd (Heap.SameBut.update ..)
    · exact (List.filter_sublist.map _).nodup hn
    · show (es.eraseIdxIfInBounds j).size≤es.size+1
      unfold Array.eraseIdxIfInBounds
      split <;> simp <;> omega
theorem aO9 {p:Addr×Value} {Q:Value→Shared→Prop} (hu:knd.room A.in1) (hkey:knd.is s.heap k a) (hm:s.heap.DictOfH knd d xs) (hsz:xs.length≤sizeLine) (hp:atKey xs k=some p)
    (h:∀ h',h'.DictOfH knd d (wO xs k)→Heap.SameBut d s.heap h'→Q p.2 { s with heap:=h',toks:=s.toks+knd.draws k }):wpAny (model prog w) A (call (.builtin "dict.pop") [.ref d,.ref a]) Q E s:=by
  refine call_meetsIn (S:=fun A' R s'=>knd.room A'.in1∧s'=s∧∀ h',h'.DictOfH knd d (wO xs k)→Heap.SameBut d s.heap h'→R (.ok (.ret p.2)) { s with heap:=h',toks:=s.toks+knd.draws k }) PySem.F.slot_dict_pop hm.typeIs PySem.F.entry_dict_pop (PySem.F.args_dict_pop_2 _ _) (.of_wp fun A' R s' ⟨hu',e,g⟩=>?_) ⟨hu,rfl,h⟩
  subst e
  have hne:xs≠[]:=fun e=>by subst e;cases hp
  obtain ⟨o,es,ep,ho,hc,hd,he,his,hn⟩:=id hm
  unfold Builtin.«dict.pop»;refine wpAny_bind ?_
  unfold Builtin.Dict.keyAndDefault;refine wpAny_bind (wpAny_notOrdered_dict hm.typeIs ?_)
  show wpAny _ _ (pure (d,Value.ref a,none)) _ _ _;refine wpAny_pure ?_
  have e0:es.isEmpty=false:=by
    have:=size_of_entries he
    rw [Array.isEmpty_eq_false_iff]
    intro z
    subst z
    exact hne (List.length_eq_zero_iff.mp this.symm)
  show wpAny _ _ (dictEntries d >>= _) _ _ _
  refine wpAny_bind (wpAny_dictEntries ho hd ?_)
  rw [e0]
  refine wpAny_bind (wpAny_pure ?_)
  show wpAny _ _ (Builtin.Dict.takeOut d (Value.ref a) >>= _) _ _ _
  refine wpAny_bind (aGL hu' hkey hm hsz hp fun h' e e1 e2 dd hs=>?_)
  refine wpAny_bind (wpAny_letGo (wpAny_pure ⟨_,rfl,?_⟩))
  rw [e2]
  exact g h' dd hs
end
theorem KT.drop {H:Hp} {kvs:List (List Key×V)} {xs:List (List Key×Addr×Value)} (r:KT H kvs xs) (k:List Key):KT H (a6U kvs k) (wO xs k):=by
  unfold a6U wO
  induction r with
  | nil=>exact .nil
  | @cons p q ps qs h t ih =>
    rw [List.filter_cons,List.filter_cons]
    by_cases e:p.1=k
    · rw [if_neg (by simp [e]),if_neg (by simp [h.1.symm.trans e])]
      exact ih
    · rw [if_pos (by simp [e]),if_pos (by simp;exact fun z=>e (h.1.trans z))]
      exact .cons h ih
theorem acX {κ:Type} [DecidableEq κ] {K:Fg} {H:Hp} {f:κ→DK} (hf:∀ a b,f a=f b→a=b) {k:κ}:∀ {kvs:List (DK×D)} {xs:List (κ×V)},a5D K H f kvs xs→a5D K H f (tR kvs (f k)) (a6U xs k)
  | _,_,.nil => .nil
  | p :: kvs,q :: xs,.cons h r=>by
    unfold tR a6U
    rw [List.filter_cons,List.filter_cons]
    by_cases c:q.1=k
    · rw [if_neg (by simp [show p.1=f k by rw [h.1,c]]),if_neg (by simp [c])]
      exact acX hf r
    · rw [if_pos (by simp;exact fun z=>c (hf _ _ (h.1.symm.trans z))),if_pos (by simp [c])]
      exact .cons h (acX hf r)
def av6 (r:RM3) (to:dX) (t:zQ):dX:=fun ρ G R=>to ρ G fun x G1=>a2O x G1∧t ρ G1 fun xs G2=>r x xs G2 R
section
variable {X:Cx}
theorem aTV {o e:Expr} {es:List Expr} {to:dX} {t:zQ} {name:Str} {apos cpos:Pos} {id:String} {r3:RM3} (slot:Slot "dict" name id) (hty:typeOf (.builtin id)=pure (.type "method_descriptor")) (hm:ahK X id r3) (ho:gG X o to) (ha:PA3 X (e :: es) t)
    (hbase:attributeBase o name X.env (eval o X.env)=eval o X.env)
    (hfew:((backTo cpos (starEach (e :: es) X.env)).all (fun x=>!x.1)&&(backToKw cpos (keywordEach [] X.env)).all (fun x=>x.1.isSome)
      && decide ((e :: es).length+([]:List Keyword).length+(if ([]:List Keyword).isEmpty then 0 else 1) < 30))=true)
    (hline:(apos.endLine == cpos.line)=true) (hs:starEach (e :: es) X.env=(false,eval e X.env) :: starEach es X.env) (hplain:(backTo cpos (starEach es X.env)).any (·.1)=false) :
    gG X (.Call (.Attribute o name apos) (e :: es) [] cpos) (av6 r3 to t):=by
  intro pins s σ H Q I h
  obtain ⟨ρ,G,R,sr,g,q,kk⟩:=h
  refine wpAny_Call_method_late hbase hfew hline rfl (kY (ho pins s σ H (fun vx H1=>Ts H H1∧∃ x G1,RD X.K H1 x vx∧HR X.K H1 G1∧a2O x G1∧t ρ G1 fun xs G2=>r3 x xs G2 R) I ⟨ρ,G,_,sr,g,q,fun v H1 x G1 t1 r1 g1 q1=>⟨t1,x,G1,r1,g1,q1⟩⟩) fun v s1 ⟨vx,H1,I1,r1,t1,x,G1,rx,g1,ty,q1⟩=>?_)
  obtain ⟨a,rfl,rfl,ia⟩:=amZ rx g1 ty
  obtain rfl:v=Value.ref a:=r1
  obtain ⟨h1,h2,_⟩:=ao2 I1 ia
  refine ⟨"dict",id,PySem.F.plainAttrs_dict,slot,hty,h1,h2,?_⟩
  have hA:=ha cpos pins s1 σ H1 (fun vs H2=>Ts H1 H2∧∃ xs G2,iG X.K H2 xs vs∧HR X.K H2 G2∧r3 (.ref a) xs G2 R) I1 ⟨ρ,G1,_,sr.mono t1,g1,q1,fun vs H2 xs G2 t2 r2 g2 q2=>⟨t2,xs,G2,r2,g2,q2⟩⟩
  rw [hs] at hA ⊢
  refine Calls.callWith_builtin (by show (false || (backTo cpos (starEach es X.env)).any (·.1))=false;rw [hplain] <;> rfl) (Calls.evalArgs_plain ?_)
  exact kY hA fun us s2 ⟨vs,H2,I2,r2,t2,xs,G2,rs,g2,q2⟩=>hm pins s2 σ H2 (.ref a) xs (.ref a) vs (.ref a) us G2 R Q I2 (.ref a) rs rfl r2 g2 q2 fun v H' d G' t3=>kk v H' d G' ((t1.trans t2).trans t3)
def aj7:RM3:=fun x xs G R=>match xs with
  | [y,z]=>uL x y G fun a t kvs k=>t=true∧kvs.length < sizeLine∧(match bD kvs k with
    | some d=>R d G
    | none=>R z (aQ G a (.dU t (oN kvs k z))))
  | _=>False
theorem aTW (hu:X.A.units+64 < cLine):ahK X "dict.setdefault" aj7:=by
  intro pins s σ H x xs vx vs u us G R Q I rx rs ru rv g q k
  match xs,rs,q with
  | [],_,q=>exact q.elim
  | [_],_,q=>exact q.elim
  | _ :: _ :: _ :: _,_,q=>exact q.elim
  | [y,z],.cons ry (.cons (v:=vz) rz .nil),q =>
    cases rv with
    | cons rvy rv =>
    cases rv with
    | cons rvz rv =>
    cases rv
    obtain ⟨a,kvs,kk,rfl,rfl,e1,_,⟨ht,hl,q⟩,dd⟩:=wN rx ry g q
    obtain rfl:u=Value.ref a:=ru
    rcases dd with ⟨k',ys,rfl,_⟩ | ⟨ks,ys,b,rfl,e,r,rfl,eb⟩
    · cases ht
    · cases rvy
      obtain ⟨z1,hd,ws,rel,dc⟩:=amJ I.hok e
      have hw:=val_two w5 (k:=ks) r
      have hv:=rel.val ks
      have lw:ws.length≤sizeLine:=by rw [← Paired.length rel];exact z1
      refine alN (tupleKind_room_in1 (by omega)) (a4Y I.hok eb) hd dc lw (fun p hp=>?_) fun hn h' dc' hs=>?_
      · rw [hp] at hv
        cases e2:bD kvs (.inr ks) with
        | none=>rw [hw.2 e2] at hv;exact (show False from hv).elim
        | some d =>
          rw [e2] at q
          obtain ⟨v,e3,rd⟩:=hw.1 d e2
          rw [e3] at hv
          exact ⟨v,H,I.tok _,hv,k v H d G (.refl H) rd g q⟩
      · rw [hn] at hv
        cases e2:bD kvs (.inr ks) with
        | some d =>
          obtain ⟨v,e3,rd⟩:=hw.1 d e2
          rw [e3] at hv;exact (show False from hv).elim
        | none =>
          rw [e2] at q
          have tt:Ts H (upd H a (.dT (putK ys ks vz))) := .turn e (fun _ z=>nomatch z) (fun _ _ z=>nomatch z)
          obtain ⟨q0,es,ep,hq,g2,g3,g4,_,g5⟩:=dc'
          have hl2:∀ v:V,(putK ys ks v).length≤sizeLine:=fun v=>by have:=wM ys ks v;rw [← r.length] at this;omega
          refine ⟨_,_,a0Z (t':=_) (ob := .dT (putK ys ks vz)) I (by rw [e];exact True.intro) hs ⟨q0,hq⟩ ⟨hl2 _,hd,_,(rel.put ks eb rvz).keeps fun c zs ec=>?_,q0,es,ep,hq,g2,g3,g4,g5⟩,rvz,k _ _ z _ tt (rz.mono tt) (g.turn (u := .dU true _) tt (.inr ⟨rfl,_,aV,(acW w5 rz r).imp fun _ _ q=>⟨q.1,q.2.mono tt⟩⟩)) q⟩
          rw [dF (awJ ec e (fun z=>nomatch z))]
          exact ec
def aeZ:RM3:=fun x xs G R=>match xs with
  | [y]=>uL x y G fun a t kvs k=>(match bD kvs k with
    | some d=>R d (aQ G a (.dU t (tR kvs k)))
    | none=>False)
  | _=>False
theorem aOA (hu:X.A.units+64 < cLine):ahK X "dict.pop" aeZ:=by
  intro pins s σ H x xs vx vs u us G R Q I rx rs ru rv g q k
  match xs,rs,q with
  | [],_,q=>exact q.elim
  | _ :: _ :: _,_,q=>exact q.elim
  | [y],.cons ry .nil,q =>
    cases rv with
    | cons rvy rv =>
    cases rv
    obtain ⟨a,kvs,kk,rfl,rfl,e1,_,q,dd⟩:=wN rx ry g q
    obtain rfl:u=Value.ref a:=ru
    split at q
    · rename_i d e2
      rcases dd with ⟨k',ys,rfl,e,r,rfl⟩ | ⟨ks,ys,b,rfl,e,r,rfl,eb⟩
      · obtain ⟨v,e3,rd⟩:=(val_two yZ (k:=k') r).1 d e2
        have tt:Ts H (upd H a (.dK (a6U ys k'))) := .turn e (fun _ z=>nomatch z) (fun _ _ z=>nomatch z)
        exact aRX I e rvy e3 (.inl rfl) fun w' s' I' rw'=>⟨v,_,I',rw',k v _ d _ tt (rd.mono tt) (g.turn (u := .dU false _) tt (.inl ⟨rfl,_,aV,(acX yZ r).imp fun _ _ q=>⟨q.1,q.2.mono tt⟩⟩)) q⟩
      · obtain ⟨v,e3,rd⟩:=(val_two w5 (k:=ks) r).1 d e2
        cases rvy
        obtain ⟨z1,hd,ws,rel,dc⟩:=amJ I.hok e
        have hv:=rel.val ks
        rw [e3] at hv
        have lw:ws.length≤sizeLine:=by rw [← Paired.length rel];exact z1
        cases hp:atKey ws ks with
        | none=>rw [hp] at hv;exact (show False from hv).elim
        | some p =>
          rw [hp] at hv
          have tt:Ts H (upd H a (.dT (a6U ys ks))) := .turn e (fun _ z=>nomatch z) (fun _ _ z=>nomatch z)
          refine aO9 (tupleKind_room_in1 (by omega)) (a4Y I.hok eb) dc lw hp fun h' dc' hs=>?_
          obtain ⟨q0,es,ep,hq,g2,g3,g4,_,g5⟩:=dc'
          refine ⟨v,_,a0Z (t':=_) (ob := .dT (a6U ys ks)) I (by rw [e];exact True.intro) hs ⟨q0,hq⟩ ⟨Nat.le_trans (aiN ys ks) z1,hd,_,(rel.drop ks).keeps fun c zs ec=>?_,q0,es,ep,hq,g2,g3,g4,g5⟩,hv,k v _ d _ tt (rd.mono tt) (g.turn (u := .dU true _) tt (.inr ⟨rfl,_,aV,(acX w5 r).imp fun _ _ q=>⟨q.1,q.2.mono tt⟩⟩)) q⟩
          rw [dF (awJ ec e (fun z=>nomatch z))]
          exact ec
    · exact q.elim
def af0:List D→Gp→oK→Prop:=fun xs G R=>match xs with
  | [.ref a]=>(match G a with
    | some (.dU false kvs)=>R (.int kvs.length) G
    | _=>False)
  | _=>False
theorem aOB:fL X (.builtin "len") af0:=by
  intro pins s σ H xs vs us G R Q I rx rv g q k
  unfold af0 at q
  split at q
  · rename_i a
    split at q
    · rename_i kvs e1
      cases rx with
      | cons r1 rr =>
      cases rr;cases r1
      cases rv with
      | cons rv rr =>
      cases rr
      cases rv
      rcases g a _ e1 with ⟨_,ys,e,r⟩ | ⟨z,_⟩
      · refine aRY I (.inl e) fun t s' I'=>⟨.int ys.length,H,I',⟨t,rfl⟩,k _ H (.int kvs.length) G (.refl H) (by rw [r.length];exact .int _) g q⟩
      · cases z
    · exact q.elim
  · exact q.elim
end
end L2
namespace L2
open PySem PySem.Spec PyProof.Rows PySem.W
theorem aGM (vs:List Value):(vs.toArray.zip vs.toArray).map (·.2)=vs.toArray:=by
  apply Array.ext (by simp)
  intro i h1 h2
  simp
section
variable {prog:Program} {w:World} {A:Around} {E:Value→Shared→Prop} {s:Shared}
theorem arS {a:Addr} {vs:List Value} {n:Nat} {P:PySem.Fin→Shared→Prop} (ho:s.heap.get? a=some (seqObj "list" vs.toArray n)) (h2:vs.length < 2)
    (h:P (.done (.ret .none)) { s with heap:=sortedHeap s.heap a vs vs.toArray }):wpAny (model prog w) A (Builtin.«list.sort» ⟨[.ref a],[]⟩) P E s:=by
  have big:1000 < sizeLine:=by decide
  rw [list_sort_plain];refine wpAny_bind (listItems_at ho rfl (wpAny_bind (listUpdate_at ho rfl ?_ (by rw [List.size_toArray];omega) (Nat.zero_le _))))
  obtain ⟨e1,ho1⟩:∃ e1,(s.heap.update a (Obj.mapSeq fun _=>(#[]:Array Value))).get? a=some (seqObj "list" #[] e1):=⟨_,get?_update_seq ho fun _=>#[]⟩
  refine wpAny_bind (seqEpoch_at ho1 rfl (wpAny_bind (wpAny_newTuple ?_ (by show vs.length≤_;omega))));refine wpAny_bind (wpAny_newList ?_ (Nat.zero_le _));refine wpAny_holding ?_
  have ho6:(((s.heap.update a (Obj.mapSeq fun _=>(#[]:Array Value))).push (seqObj "tuple" vs.toArray 0)).push (seqObj "list" #[] 0)).get? a=some (seqObj "list" #[] e1):=Heap.get?_push_of_some _ (Heap.get?_push_of_some _ ho1)
  show wpAny (model prog w) A _ P E { s with heap:=((s.heap.update a (Obj.mapSeq fun _=>(#[]:Array Value))).push (seqObj "tuple" vs.toArray 0)).push (seqObj "list" #[] 0) };dsimp only
  have c2:vs.toArray.size < 2:=by rw [List.size_toArray];exact h2
  rw [if_pos c2,if_pos c2]
  refine wpAny_bind (wpAny_pure ?_);rw [StateT.run_pure];refine wpAny_bind (wpAny_pure ?_);dsimp only
  refine wpAny_bind (seqEpoch_at ho6 rfl ?_);rw [show (arrOf (SortSt.mk' general' (vs.toArray.zip vs.toArray) #[] 7 none)).map (·.2)=vs.toArray from aGM vs]
  refine wpAny_bind (listUpdate_at ho6 rfl ?_ (Nat.zero_le _) (by rw [List.size_toArray];omega));simp only [bne_self_eq_false,Bool.false_eq_true,if_false]
  exact wpAny_pure h
theorem aCA {l:Addr} {vs:List Value} {Q:Value→Shared→Prop} (hl:s.heap.IsList l vs.toArray) (h2:vs.length < 2)
    (h:Q (.ref (s.heap.objs.size+1)) { s with heap:=sortedAll s.heap vs vs.toArray }):wpAny (model prog w) A (call (.builtin "sorted") [.ref l]) Q E s:=by
  have big:1000 < sizeLine:=by decide
  refine Calls.call_function_entry kind_sorted plain_sorted entry_sorted (args_sorted1 _) ?_;unfold Builtin.«sorted»
  refine wpAny_bind (m:=checkCount "sorted" 1 1 _) (wpAny_pure (wpAny_bind (collect_list hl (wpAny_bind (wpAny_newList ?_ (by omega))) (by omega))))
  have sz:((s.heap.push (seqObj "list" #[] 0)).update s.heap.objs.size (Obj.mapSeq (·++vs.toArray))).objs.size=s.heap.objs.size+1:=by rw [Heap.size_update,size_push']
  have oL:(((s.heap.push (seqObj "list" #[] 0)).update s.heap.objs.size (Obj.mapSeq (·++vs.toArray))).push (seqObj "list" vs.toArray 0)).get? (s.heap.objs.size+1)=some (seqObj "list" vs.toArray 0):=by rw [← sz];exact Heap.get?_push_size _ rfl
  show wpAny _ _ _ _ _ { s with heap:=((s.heap.push (seqObj "list" #[] 0)).update s.heap.objs.size (Obj.mapSeq (·++vs.toArray))).push (seqObj "list" vs.toArray 0) };rw [sz]
  exact wpAny_bind (wpAny_holding (wpAny_call_entry slot_list_sort ⟨_,oL,rfl⟩ entry_list_sort (arS oL h2 ⟨_,rfl,wpAny_pure ⟨_,rfl,h⟩⟩) (args_list_sort _)))
end
def aOC (a b:Int×Int):Prop:=a.1 < b.1∨(a.1=b.1∧a.2 < b.2)
instance (a b:Int×Int):Decidable (aOC a b):=by unfold aOC;infer_instance
def tU:List (Int×Int)→Prop:=List.Pairwise aOC
end L2
namespace L2
open PySem PySem.Spec PyProof.Rows PySem.W
theorem getD_at {α:Type} {l:List α} {i:Nat} {d:α} (h:i < l.length):l.getD i d=l[i]:=by simp [List.getD,h]
abbrev prV (q:Int×Int):D := .tup [.int q.1,.int q.2]
theorem aGN {h:Heap} {vs:List Value} {out:Array Value} {b:Addr} {u:Obj} (e:h.get? b=some u):(sortedAll h vs out).get? b=some u:=by
  have lb:b < h.objs.size:=Heap.lt_size e
  have n0:b≠h.objs.size:=Nat.ne_of_lt lb
  have n1:b≠h.objs.size+1:=Nat.ne_of_lt (Nat.lt_succ_of_lt lb)
  unfold sortedAll sortedHeap
  rw [(Heap.SameBut.update _ _ _).2 b n1]
  refine Heap.get?_push_of_some _ (Heap.get?_push_of_some _ ?_)
  rw [(Heap.SameBut.update _ _ _).2 b n1]
  refine Heap.get?_push_of_some _ ?_
  rw [(Heap.SameBut.update _ _ _).2 b n0]
  exact Heap.get?_push_of_some _ e
theorem aOD {h:Heap} {vs:List Value} {out:Array Value}:∃ c,(sortedAll h vs out).get? (h.objs.size+1)=some (seqObj "list" out c):=by
  have sz:((h.push (seqObj "list" #[] 0)).update h.objs.size (Obj.mapSeq (·++vs.toArray))).objs.size=h.objs.size+1:=by rw [Heap.size_update,size_push']
  have oL:(((h.push (seqObj "list" #[] 0)).update h.objs.size (Obj.mapSeq (·++vs.toArray))).push (seqObj "list" vs.toArray 0)).get? (h.objs.size+1)=some (seqObj "list" vs.toArray 0):=by rw [← sz];exact Heap.get?_push_size _ rfl
  unfold sortedAll sortedHeap
  obtain ⟨c1,e1⟩:∃ c,((((h.push (seqObj "list" #[] 0)).update h.objs.size (Obj.mapSeq (·++vs.toArray))).push (seqObj "list" vs.toArray 0)).update (h.objs.size+1) (Obj.mapSeq fun _=>#[])).get? (h.objs.size+1)=some (seqObj "list" #[] c):=⟨_,get?_update_seq oL fun _=>#[]⟩
  exact ⟨_,get?_update_seq (Heap.get?_push_of_some _ (Heap.get?_push_of_some _ e1)) fun _=>out⟩
section
variable {X:Cx}
def aKG (ds:List D) (G:Gp) (R:oK):Prop:=∃ ps:List (Int×Int),ds=ps.map prV∧ps.Nodup∧ps.length < 2∧∀ qs:List (Int×Int),qs.Perm ps→tU qs→∀ r,G r=none→R (.ref r) (aQ G r (.lst (qs.map prV)))
def aoP:List D→Gp→oK→Prop:=fun xs G R=>match xs with
  | [.ref a]=>(match bZ G a with
    | some ds=>aKG ds G R
    | none=>False)
  | _=>False
theorem aTX {ps:List (Int×Int)} (h:ps.length < 2):tU ps:=by
  unfold tU
  rw [List.pairwise_iff_getElem]
  intro i j hi hj hij
  omega
theorem aj8 {pins:List (Addr×Obj)} {σ:St} {H:Hp} {s:Shared} (I:Inv X pins σ H s) {G:Gp} {R:oK} {Q:VK} (g:HR X.K H G) {ps:List (Int×Int)} {xs:List V} {us:List Value} (r:iG X.K H (ps.map prV) xs) (rv:Vals xs us) (h2:ps.length < 2)
    (k:∀ v H' d G',Ts H H'→RD X.K H' d v→HR X.K H' G'→R d G'→Q v H') (h:∀ qs:List (Int×Int),qs.Perm ps→tU qs→∀ r,G r=none→R (.ref r) (aQ G r (.lst (qs.map prV)))) {h':Heap} {a:Addr} {tk c:Nat} (fr:s.heap.objs.size≤a) (k2:∀ b o,s.heap.get? b=some o→h'.get? b=some o) (ho:h'.get? a=some (seqObj "list" us.toArray c)):EP X pins σ Q (.ref a) { s with heap:=h',toks:=tk }:=by
  have big:1000 < sizeLine:=by decide
  have l1:us.length=ps.length:=by rw [← rv.length,← r.length,List.length_map]
  have l2:xs.length=ps.length:=by rw [← r.length,List.length_map]
  have hn:H a=none:=I.hok.fresh fr
  have sn:Same H (upd H a (.lst xs)):=cU hn
  have J:Inv X pins σ (upd H a (.lst xs)) { s with heap:=h',toks:=tk }:=I.laid (t':=tk) (fun b o e=>k2 b o e) fr ⟨by omega,_,c,rv,ho⟩
  have kf:=a6X J
  exact ⟨.ref a,_,J,rfl,k _ _ (.ref _) _ (.same sn) (.ref _) (g.put (u := .lst _) hn ⟨_,aV,r.mono (.same sn)⟩) (h _ (.refl _) (aTX h2) _ (tH g hn kf))⟩
theorem aGO:fL X (.builtin "sorted") aoP:=by
  intro pins s σ H xs vs us G R Q I rx rv g q k
  unfold aoP at q
  split at q
  · rename_i a
    split at q
    · rename_i ds e1
      obtain ⟨ps,rfl,nd,h64,h⟩:=q
      cases rx with
      | cons r1 rr =>
      cases rr;cases r1
      cases rv with
      | cons rv rr =>
      cases rr
      cases rv
      obtain ⟨zs,hq,r⟩:=gW g e1
      obtain ⟨its,vi,pl,_⟩:=I.list hq
      obtain ⟨c,hc⟩:=aOD (h:=s.heap) (vs:=its) (out:=its.toArray)
      exact aCA pl.isList (by rw [← vi.length,← r.length,List.length_map];exact h64) (aj8 (tk:=s.toks) I g r vi h64 k h (Nat.le_succ _) (fun b o e=>aGN e) hc)
    · exact q.elim
  · exact q.elim
end
end L2
namespace L2
open PySem PySem.Spec PyProof.Rows PySem.W
def a3O (h:Heap) (d:Addr) (es:Array DictEntry) (ep:Nat):Prop:=∃ o,h.get? d=some o∧o.ExactDict∧o.data = .dict es ep
section
variable {prog:Program} {w:World} {A:Around} {E:Value→Shared→Prop} {s:Shared} {d it:Addr} {es:Array DictEntry} {ep i:Nat}
theorem a3O.typeIs (hm:a3O s.heap d es ep):s.TypeIs (.ref d) "dict" := let ⟨o,ho,hc,_⟩:=hm;⟨o,ho,hc.1⟩
theorem a3O.lt {h:Heap} (hm:a3O h d es ep):d < h.objs.size:=let ⟨_,ho,_⟩:=hm;Heap.lt_size ho
theorem a3O.at {h h':Heap} (hm:a3O h d es ep) (k:∀ o,h.get? d=some o→h'.get? d=some o):a3O h' d es ep:=let ⟨o,ho,r⟩:=hm;⟨o,k o ho,r⟩
theorem aGP {Q:Value→Shared→Prop} (hd:(d == sysModules)=false) (hm:a3O s.heap d es ep) (hQ:Q (.ref s.heap.objs.size) { s with heap:=s.heap.push { cls := .type "dict_keyiterator",data := .fields #[.ref d,.int 0 0,.int es.size 0,.int ep 0] } }):wpAny (model prog w) A (pyIter (.ref d)) Q E s:=by
  have T:=hm.typeIs
  obtain ⟨o,ho,hc,hdat⟩:=hm
  refine wpAny_pyIter_slot T F.slot_dict_iter (wpAny_call_entry F.slot_dict_iter T F.entry_dict_iter ?_ (F.args_dict_iter_1 _));unfold Builtin.«dict.__iter__»;refine wpAny_bind ?_
  unfold Builtin.Dict.dictSlotNone;refine wpAny_bind (wpAny_notOrdered_dict T ?_);show wpAny _ _ (pure (Value.ref d)) _ _ s;refine wpAny_pure ?_
  show wpAny _ _ (Builtin.Dict.showsAll d >>= _) _ _ s;unfold Builtin.Dict.showsAll;rw [if_neg (by rw [hd];exact Bool.false_ne_true)]
  refine wpAny_bind (wpAny_pure (wpAny_bind (wpAny_dictEntries ho hdat (wpAny_bind (wpAny_dictEpoch ho hdat (wpAny_bind (wpAny_newObj_type (wpAny_pure ⟨_,rfl, "dict_keyiterator",_,⟨_,Heap.get?_push_size _ rfl,rfl⟩,F.slot_dict_keyiterator_next.lookup,?_⟩))))))))
  simpa [rawInt] using hQ
theorem aGQ {e:DictEntry} {Q:Option Value→Shared→Prop} (hit:s.heap.IsKeyIter it d i es.size ep) (hm:a3O s.heap d es ep) (hx:es[i]?=some e)
    (hQ:∀ h',h'.IsKeyIter it d (i+1) es.size ep→Heap.SameBut it s.heap h'→Q (some e.key) { s with heap:=h' }):wpAny (model prog w) A (pyNext (.ref it)) Q E s:=by
  obtain ⟨o,ho,hc,hd⟩:=id hit
  obtain ⟨od,hod,hcd,hdd⟩:=hm
  have lt:i < es.size:=(Array.getElem?_eq_some_iff.mp hx).1
  unfold pyNext;refine wpAny_bind (wpAny_attempt (wpAny_callSpecial?_slot (name:=Str.ofString "__next__") hit.typeIs F.slot_dict_keyiterator_next (wpAny_call_entry F.slot_dict_keyiterator_next hit.typeIs F.entry_dict_keyiterator_next ?_ (F.args_dict_keyiterator_next_1 _))))
  refine wpAny_bind (wpAny_pure ?_);refine wpAny_bind ?_;refine wpAny_bind ?_
  (first | refine wpAny_bind (wpAny_typeNameOfWhole_keyiter hit.typeIs (wpAny_pure ?_)) | refine wpAny_bind (wpAny_typeNameOf_keyiter hit.typeIs (wpAny_pure ?_)));refine wpAny_bind (wpAny_fieldsOf ho hd ?_)
  have own:Builtin.Dict_items.ownsTuple "dict_keyiterator" = false:=by decide
  simp only [own,Bool.false_eq_true,if_false];show wpAny _ _ (if (Value.ref d == Value.none)=true then _ else _) _ _ s;rw [if_neg (show ¬ ((Value.ref d == Value.none)=true) from Bool.false_ne_true)]
  refine wpAny_bind (wpAny_pure (wpAny_bind (wpAny_dictEntries hod hdd ?_)));rw [if_neg (by simp)];refine wpAny_bind (wpAny_pure (wpAny_bind (wpAny_dictEpoch hod hdd ?_)));rw [if_neg (by simp)];refine wpAny_pure ?_
  simp only [show ¬ ((i:Int) < 0) from by omega,if_false,Int.toNat_natCast,hx];refine wpAny_bind ?_
  (first | refine wpAny_bind (wpAny_typeNameOfWhole_keyiter hit.typeIs (wpAny_pure ?_)) | refine wpAny_bind (wpAny_typeNameOf_keyiter hit.typeIs (wpAny_pure ?_)));refine wpAny_bind (wpAny_isOneOf_keyiter hit.typeIs ?_)
  show wpAny _ _ (setField (.ref it) 1 (rawInt ((i:Int)+1)) >>= _) _ _ s;refine wpAny_bind (wpAny_setField ho hd (by simp) ?_)
  have hit':(s.heap.update it (Obj.mapFields (·.setIfInBounds 1 (rawInt ((i:Int)+1))))).IsKeyIter it d (i+1) es.size ep:=⟨_,Heap.get?_update_self _ ho (Obj.isFreed_of_fields (Obj.data_mapFields hd _)),(Obj.cls_mapFields ..).trans hc,by rw [Obj.data_mapFields hd];simp [rawInt]⟩
  refine wpAny_bind (wpAny_holding (wpAny_bind (wpAny_isOneOf_keyiter (s:={ s with heap:=s.heap.update it (Obj.mapFields (·.setIfInBounds 1 (rawInt ((i:Int)+1)))) }) hit'.typeIs ?_)))
  show wpAny _ _ (pure e.key) _ _ _;exact wpAny_pure (wpAny_pure ⟨_,rfl,wpAny_pure (hQ _ hit' (Heap.SameBut.update ..))⟩)
theorem aOE {Q:Option Value→Shared→Prop} (hh:A.handled=none) (hit:s.heap.IsKeyIter it d i es.size ep) (hm:a3O s.heap d es ep) (hx:es.size≤i) (hQ:∀ h',Heap.ExtBut it s.heap h'→Q none { s with heap:=h' }):wpAny (model prog w) A (pyNext (.ref it)) Q E s:=by
  obtain ⟨o,ho,hc,hd⟩:=id hit
  obtain ⟨od,hod,hcd,hdd⟩:=hm
  unfold pyNext;refine wpAny_bind (wpAny_attempt (wpAny_callSpecial?_slot (name:=Str.ofString "__next__") hit.typeIs F.slot_dict_keyiterator_next (wpAny_call_entry F.slot_dict_keyiterator_next hit.typeIs F.entry_dict_keyiterator_next ?_ (F.args_dict_keyiterator_next_1 _))))
  refine wpAny_bind (wpAny_pure ?_);refine wpAny_bind ?_;refine wpAny_bind ?_
  (first | refine wpAny_bind (wpAny_typeNameOfWhole_keyiter hit.typeIs (wpAny_pure ?_)) | refine wpAny_bind (wpAny_typeNameOf_keyiter hit.typeIs (wpAny_pure ?_)));refine wpAny_bind (wpAny_fieldsOf ho hd ?_)
  have own:Builtin.Dict_items.ownsTuple "dict_keyiterator" = false:=by decide
  simp only [own,Bool.false_eq_true,if_false];show wpAny _ _ (if (Value.ref d == Value.none)=true then _ else _) _ _ s;rw [if_neg (show ¬ ((Value.ref d == Value.none)=true) from Bool.false_ne_true)]
  refine wpAny_bind (wpAny_pure (wpAny_bind (wpAny_dictEntries hod hdd ?_)));rw [if_neg (by simp)];refine wpAny_bind (wpAny_pure (wpAny_bind (wpAny_dictEpoch hod hdd ?_)));rw [if_neg (by simp)];refine wpAny_pure ?_
  simp only [show ¬ ((i:Int) < 0) from by omega,if_false,Int.toNat_natCast,Array.getElem?_eq_none hx];refine wpAny_bind ?_
  (first | refine wpAny_bind (wpAny_typeNameOfWhole_keyiter hit.typeIs (wpAny_pure ?_)) | refine wpAny_bind (wpAny_typeNameOf_keyiter hit.typeIs (wpAny_pure ?_)));show wpAny _ _ (setField (.ref it) 0 .none >>= _) _ _ s
  refine wpAny_bind (wpAny_setField ho hd (by simp) ?_);show wpAny _ _ (newExc (.type "StopIteration") [] >>= _) _ _ _;refine wpAny_bind ?_
  simp only [newExc,newTuple];refine wpAny_bind (wpAny_newObj_type ?_ (by size_fits));refine wpAny_bind (m:=firstArgMember _ _) (wpAny_of_eq (a:=Value.none) (by first | rfl | (simp only [firstArgMember];rfl)) (wpAny_newObj_type ?_ (by size_fits)))
  simp only [raiseNew];refine wpAny_bind (wpAny_handled ?_);rw [show A.in1.handled=none from hh]
  refine wpAny_bind (wpAny_pure (wpAny_throw ?_));refine wpAny_bind (wpAny_isInstance (T := "StopIteration") (b:=true) ⟨_,Heap.get?_push_size _ rfl,rfl⟩ isSubtype_stop ?_)
  refine wpAny_pure (hQ _ fun b o' hb e=>?_)
  exact Heap.get?_push_of_some _ (Heap.get?_push_of_some _ (((Heap.SameBut.update _ _ _).2 b hb).trans e))
theorem aCB (hh:A.handled=none) (I:Addr) (hne:d≠I):Walks prog w A I [I,d] [I] es.size (fun i v=>∃ e,es[i]?=some e∧v=e.key) (fun i h=>h.IsKeyIter I d i es.size ep∧a3O h d es ep) where
  sub:=fun b hb=>by simp at hb;simp [hb]
  frame:=fun _ _ _ st hk=>⟨st.1.at fun o e=>hk I (by simp) o e,st.2.at fun o e=>hk d (by simp) o e⟩
  item:=fun i s Q E hi st hQ=>by
    have hx:es[i]?=some es[i]:=Array.getElem?_eq_getElem hi
    exact aGQ st.1 st.2 hx fun h' hit' hs'=>hQ _ h' s.toks ⟨_,hx,rfl⟩ ⟨hit',st.2.at fun o e=>hs'.extBut _ o hne e⟩ fun b o hb e=>hs'.extBut b o (fun h=>hb (by simp [h])) e
  done:=fun s Q E st hQ=>aOE hh st.1 st.2 (Nat.le_refl _) fun h' he'=>hQ h' s.toks fun b o hb e=>he' b o (fun h=>hb (by simp [h])) e
  self:=fun _ _ _ _ st hQ=>wpAny_pyIter_keyiter st.1 hQ
theorem aOF (lo:(d == sysModules)=false):KdlSrc prog w "dict" d d es.size (fun i v=>∃ e,es[i]?=some e∧v=e.key) (fun h=>a3O h d es ep) where
  type:=fun _ hm=>hm.typeIs
  there:=fun _ hm=>⟨hm.lt,hm.lt⟩
  keep:=fun _ _ hm hk=>hm.at fun o e=>hk d (.inl rfl) o e
  notList:=by decide
  notTuple:=by decide
  hint:=fun _ _ _ _ hm hq=>kdl_hint_dict hm.typeIs hq
  iter:=fun _ s hh hm=>⟨_,_,(fun _ _ hq=>aGP lo hm hq),aCB hh _ (Nat.ne_of_lt hm.lt),⟨⟨_,Heap.get?_push_size _ rfl,rfl,rfl⟩,hm.at fun o e=>Heap.get?_push_of_some _ e⟩⟩
end
end L2
namespace L2
open PySem PySem.Spec PyProof.Rows PySem.W
def aTY (i j c:Int):Nat:=if c=1 then (j - i).toNat else (i - j).toNat
section
variable {X:Cx} {tg:Expr}
end
def aYH (lo c:Int) (n:Nat):List D:=(List.range n).map fun (i:Nat) => .int (lo+(i:Int) * c)
def aKH (xs:List D) (G:Gp) (R:Src→Gp→Prop):Prop:=match xs with
  | [.int i,.int j,.int c]=>(-(2 ^ 61)≤i∧i < 2 ^ 61∧-(2 ^ 61)≤j∧j < 2 ^ 61)∧(c=1∨c=-1)∧R (.imm (aYH i c (aTY i j c))) G
  | _=>False
def aOG (ta:zQ):TI3:=fun ρ G R=>ta ρ G fun xs G1=>aKH xs G1 R
section
variable {X:Cx} {tg:Expr}
def aKI (x:D) (G:Gp) (R:oK):Prop:=match x with
  | .ref a=>(match bZ G a with
    | some ds=>∀ q,G q=none→R (.ref q) (aQ G q (.lst ds.reverse))
    | none=>False)
  | _=>False
def aTZ (te:dX) (tk:TO3):dX:=fun ρ G R=>te ρ G fun x G1=>tk ρ G1 fun o G2=>o=some (-1)∧aKI x G2 R
end
end L2
namespace L2
open PySem PySem.Spec PyProof.Rows PySem.W
theorem aGR:typeLookup (.type "list") "keys" = pure none:=by rw [typeLookup_type,builtinLookup_eq_fast];kernel_rfl
section
variable {prog:Program} {w:World} {A:Around} {E:Value→Shared→Prop} {s:Shared}
theorem aGS {a:Addr} {o:Obj} {xs:Array Value} {k:Nat} {Q:Option Value→Shared→Prop}
    (hx:s.heap.get? a=some o) (hc:o.cls = .type "list") (hdat:o.data = .seq xs k) (hd:o.dict=none) (hA:A.handled=none)
    (h:∀ h' tk,(∀ b o,s.heap.get? b=some o→h'.get? b=some o)→Q none { s with heap:=h',toks:=tk }) :
    wpAny (model prog w) A (getAttr? (.ref a) "keys") Q E s:=by
  obtain ⟨c,dct,dat,sl⟩:=o
  simp only at hc hdat hd
  subst hc hdat hd
  obtain ⟨hp,g,d,tk,os⟩:=s
  have hT:∀ tk',(⟨hp,g,d,tk',os⟩:Shared).TypeIs (.ref a) "list" := fun _=>⟨_,hx,rfl⟩
  have f1:=sub_AttributeError
  have f3:=F.slot_list_getattribute.lookup
  have f4:=F.slot_list_getattribute.bind (.ref a)
  have f5:=am_list_getattr_none
  unfold getAttr? getAttrBy? getAttrBy
  repeat (any_goals (first | assumption | exact hT _ | ((with_reducible show wpAny _ _ (call (Value.builtin "list.__getattribute__") _ _) _ _ _);refine call_meets F.slot_list_getattribute (hT _) am_entry_list_getattribute (F.args_list_getattribute_2 _ _) (meets_getattribute_miss_list a xs k sl "keys" _ aGR (by decide) (by decide)) ⟨hx,hA,fun h' tk' e hx'=>?_⟩) | wp_step))
  obtain ⟨t',u',he⟩:=hx'.there
  show wpAny _ _ (getattributeRaised _ _ _ _ _ _ _) _ _ _
  unfold getattributeRaised
  repeat (any_goals (first | assumption | wp_step))
  exact h _ _ hx'.keeps
theorem arT:entryFor table "dict.update.loop" = some Builtin.«dict.update.loop» := entryFor_of_fast (by kernel_rfl)
theorem acY:plainId "dict.update.loop" = true:=by decide +kernel
abbrev TK (prog:Program) (w:World):=tupleKind (bF prog w)
def aU0 (prog:Program) (w:World) (h:Heap) (v:Value) (x:List Key×Addr×Value):Prop:=∃ p o n,v = .ref p∧h.get? p=some o∧o.cls = .type "tuple" ∧ o.data = .seq #[.ref x.2.1,x.2.2] n∧(TK prog w).is h x.1 x.2.1
def aU1 (xs ps:List (List Key×Addr×Value)):List (List Key×Addr×Value):=ps.foldl (fun acc x=>storedH acc x.1 x.2.1 x.2.2) xs
theorem ax5 {h h':Heap} {ks:List Key} {a:Addr} (x:(TK prog w).is h ks a) (k:∀ o,h.get? a=some o→h'.get? a=some o):(TK prog w).is h' ks a:=by
  obtain ⟨o,its,n,h1,r⟩:=x
  exact ⟨o,its,n,k _ h1,r⟩
def aGT (prog:Program) (w:World) (I d:Addr) (h:Heap) (v:Value) (x:List Key×Addr×Value):Prop:=∃ p o n,v = .ref p∧h.get? p=some o∧o.cls = .type "tuple" ∧ o.data = .seq #[.ref x.2.1,x.2.2] n∧(TK prog w).is h x.1 x.2.1∧p≠I∧p≠d∧x.2.1≠I∧x.2.1≠d
theorem aGT.keep {I d:Addr} {h h':Heap} {v:Value} {x:List Key×Addr×Value} (q:aGT prog w I d h v x) (k:∀ b o,b≠d→b≠I→h.get? b=some o→h'.get? b=some o):aGT prog w I d h' v x:=by
  obtain ⟨p,o,n,e,h1,h2,h3,h4,h5,h6,h7,h8⟩:=q
  exact ⟨p,o,n,e,k _ _ h6 h5 h1,h2,h3,ax5 h4 fun o e=>k _ _ h8 h7 e,h5,h6,h7,h8⟩
theorem aU0.ok {I d:Addr} {h h':Heap} {v:Value} {x:List Key×Addr×Value} (q:aU0 prog w h v x) (hI:h.objs.size≤I) (hd:h.objs.size≤d) (k:∀ b o,h.get? b=some o→h'.get? b=some o):aGT prog w I d h' v x:=by
  obtain ⟨p,o,n,e,h1,h2,h3,h4⟩:=q
  have l1:=Heap.lt_size h1
  have l2:x.2.1 < h.objs.size:=by
    obtain ⟨o2,its,n2,z,_⟩:=id h4
    exact Heap.lt_size z
  exact ⟨p,o,n,e,k _ _ h1,h2,h3,ax5 h4 fun o e=>k _ _ e,Nat.ne_of_lt (Nat.lt_of_lt_of_le l1 hI),Nat.ne_of_lt (Nat.lt_of_lt_of_le l1 hd),Nat.ne_of_lt (Nat.lt_of_lt_of_le l2 hI),Nat.ne_of_lt (Nat.lt_of_lt_of_le l2 hd)⟩
end
end L2
namespace L2
open PySem PySem.Spec PyProof.Rows PySem.W
def dkD:DK→D
  | .inl k=>kD k
  | .inr ks => .tup (ks.map kD)
def aU2 (kvs:List (DK×D)) (ps:List (List Key×D)):List (DK×D):=ps.foldl (fun acc p=>oN acc (.inr p.1) p.2) kvs
inductive Prs (K:Fg) (H:Hp):List (List Key×D)→List (List Key×Addr×Value)→Prop where
  | nil:Prs K H [] []
  | cons {ks:List Key} {b:Addr} {vz:V} {u:Value} {d:D} {kvs:List (List Key×D)} {ps:List (List Key×Addr×Value)}:H b=some (.tup (ks.map kV))→RD K H d vz→RelV vz u→Prs K H kvs ps→Prs K H ((ks,d) :: kvs) ((ks,b,u) :: ps)
theorem Prs.len {K:Fg} {H:Hp} {kvs:List (List Key×D)} {ps:List (List Key×Addr×Value)} (h:Prs K H kvs ps):kvs.length=ps.length:=by
  induction h with
  | nil=>rfl
  | cons _ _ _ _ ih=>simp [ih]
theorem Prs.fold {K:Fg} {H:Hp} {kvs:List (List Key×D)} {ps:List (List Key×Addr×Value)} (h:Prs K H kvs ps):∀ {k0:List (DK×D)} {y0:List (List Key×V)} {p0:List (List Key×Addr×Value)},KT H y0 p0→a5D K H .inr k0 y0→∃ ys,KT H ys (aU1 p0 ps)∧a5D K H .inr (aU2 k0 kvs) ys:=by
  induction h with
  | nil=>intro k0 y0 p0 a b;exact ⟨y0,a,b⟩
  | @cons ks b vz u d kvs ps e rd rv _ ih =>
    intro k0 y0 p0 a c
    exact ih (KT.put a ks e rv) (acW w5 rd c)
section
variable {X:Cx}
theorem af2 {K:Fg} {H:Hp}:∀ (ks:List Key),iG K H (ks.map kD) (ks.map kV)
  | [] => .nil
  | .inl i :: r => .cons (.int i) (af2 r)
  | .inr x :: r => .cons (.str x) (af2 r)
theorem arU {K:Fg} {H:Hp}:∀ {kvs:List (DK×D)} {ys:List (List Key×V)} {ws:List (List Key×Addr×Value)},a5D K H .inr kvs ys→KT H ys ws→iG K H (kvs.map fun p=>dkD p.1) (ws.map fun x => .ref x.2.1)
  | _,_,_,.nil,.nil => .nil
  | p :: kvs,q :: ys,x :: ws,.cons h r,.cons h' r'=>by
    refine .cons ?_ (arU r r')
    show RD K H (dkD p.1) (.ref x.2.1)
    rw [h.1]
    have e:=h'.2.1
    exact .tup (SqT.of e) (af2 _) e
end
end L2
namespace L2
open PySem PySem.Spec PyProof.Rows
section
variable {X:Cx} {pins:List (Addr×Obj)} {σ:St} {H:Hp} {s:Shared} {i:Nat}
end
def aYI (F:oR) (i:Nat):oR:={ nx:=fun ρ G=>F.nx (a4Z ρ i) G,rt:=F.rt,bk:=fun ρ G=>F.bk (a4Z ρ i) G,ct:=fun ρ G=>F.ct (a4Z ρ i) G }
def aU3 (i:Nat) (t:cI):cI:=fun F ρ G=>t (aYI F i) (a4Z ρ i) G
end L2
namespace L2
open PySem PySem.Spec PyProof.Rows PySem.W
section
variable {prog:Program} {w:World} {A:Around} {E:Value→Shared→Prop} {s:Shared}
theorem aGU {h:Heap} {vs:List Value} {out:Array Value} {b:Addr} {u:Obj} (e:h.get? b=some u):(sortedHeap (h.push (seqObj "list" vs.toArray 0)) h.objs.size vs out).get? b=some u:=by
  have n0:b≠h.objs.size:=Nat.ne_of_lt (Heap.lt_size e)
  unfold sortedHeap
  rw [(Heap.SameBut.update _ _ _).2 b n0]
  refine Heap.get?_push_of_some _ (Heap.get?_push_of_some _ ?_)
  rw [(Heap.SameBut.update _ _ _).2 b n0]
  exact Heap.get?_push_of_some _ e
theorem aOI {h:Heap} {vs:List Value} {out:Array Value}:∃ c,(sortedHeap (h.push (seqObj "list" vs.toArray 0)) h.objs.size vs out).get? h.objs.size=some (seqObj "list" out c):=by
  have oL:(h.push (seqObj "list" vs.toArray 0)).get? h.objs.size=some (seqObj "list" vs.toArray 0):=Heap.get?_push_size _ rfl
  unfold sortedHeap
  obtain ⟨c1,e1⟩:∃ c,((h.push (seqObj "list" vs.toArray 0)).update h.objs.size (Obj.mapSeq fun _=>#[])).get? h.objs.size=some (seqObj "list" #[] c):=⟨_,get?_update_seq oL fun _=>#[]⟩
  exact ⟨_,get?_update_seq (Heap.get?_push_of_some _ (Heap.get?_push_of_some _ e1)) fun _=>out⟩
theorem ax6 {r:Addr} {CV:List Value→Heap→Prop} {Q:Value→Shared→Prop}
    (aYJ:∀ (R:List Value→Shared→Prop) (E:Value→Shared→Prop),(∀ vs h' tk,(∀ b o,s.heap.get? b=some o→h'.get? b=some o)→CV vs h'→R vs { s with heap:=h',toks:=tk })→wpAny (model prog w) A.in1 (collect (.ref r)) R E s)
    (hm:∀ vs h1 tk,(∀ b o,s.heap.get? b=some o→h1.get? b=some o)→CV vs h1→vs.length < 2 ∧
      ∀ (h':Heap) (c:Nat),(∀ b o,h1.get? b=some o→h'.get? b=some o)→h'.get? h1.objs.size=some (seqObj "list" vs.toArray c)→Q (.ref h1.objs.size) { s with heap:=h',toks:=tk }):wpAny (model prog w) A (call (.builtin "sorted") [.ref r]) Q E s:=by
  have big:1000 < sizeLine:=by decide
  refine Calls.call_function_entry kind_sorted plain_sorted entry_sorted (args_sorted1 _) ?_;unfold Builtin.«sorted»
  refine wpAny_bind (m:=checkCount "sorted" 1 1 _) (wpAny_pure (wpAny_bind (aYJ _ _ fun vs h1 tk k1 cv=>?_)))
  obtain ⟨h2,h⟩:=hm vs h1 tk k1 cv
  refine wpAny_bind (wpAny_newList ?_ (by omega))
  have oL:(h1.push (seqObj "list" vs.toArray 0)).get? h1.objs.size=some (seqObj "list" vs.toArray 0):=Heap.get?_push_size _ rfl
  refine wpAny_bind (wpAny_holding (wpAny_call_entry (s:={ s with heap:=h1.push (seqObj "list" vs.toArray 0),toks:=tk }) slot_list_sort ⟨_,oL,rfl⟩ entry_list_sort (arS (s:={ s with heap:=h1.push (seqObj "list" vs.toArray 0),toks:=tk }) oL h2 ⟨_,rfl,wpAny_pure ⟨_,rfl,?_⟩⟩) (args_list_sort _)))
  obtain ⟨c,hc⟩:=aOI (h:=h1) (vs:=vs) (out:=vs.toArray)
  exact h _ c (fun b o e=>aGU e) hc
end
section
variable {X:Cx}
theorem aGV {pins:List (Addr×Obj)} {σ:St} {H:Hp} {s:Shared} (I:Inv X pins σ H s) {a:Addr} {ys:List (List Key×V)} (e:H a=some (.dT ys)):∃ (es:Array DictEntry) (ep:Nat) (ws:List (List Key×Addr×Value)),(a == sysModules)=false∧a3O s.heap a es ep∧es.size≤sizeLine∧KT H ys ws∧∀ acc:Array Value,ItemsOf (fun i v=>∃ e,es[i]?=some e∧v=e.key) acc es.size→acc.toList=ws.map fun x=>Value.ref x.2.1:=by
  obtain ⟨z1,hd,ws,rel,o,es,ep,ho,hcl,hdat,he,his,hn⟩:=amJ I.hok e
  have lw:es.size=ws.length:=size_of_entries he
  have lw2:ws.length=ys.length:=(Paired.length rel).symm
  refine ⟨es,ep,ws,hd,⟨o,ho,hcl,hdat⟩,by omega,rel,fun acc hacc=>?_⟩
  apply List.ext_getElem?
  intro i
  by_cases hi:i < ws.length
  · have hi2:i < acc.size:=by rw [hacc.1,lw];exact hi
    obtain ⟨en,e1,e2⟩:=hacc.2 i acc[i] (Array.getElem?_eq_getElem hi2)
    have e3:es.toList[i]?=some en:=by rw [Array.getElem?_toList];exact e1
    rw [he,List.getElem?_map,List.getElem?_eq_getElem hi] at e3
    have e4:entryOfKey (tupleKind (bF X.prog X.w)) ws[i]=en:=by simpa using e3
    rw [Array.getElem?_toList,Array.getElem?_eq_getElem hi2,e2,← e4,List.getElem?_map,List.getElem?_eq_getElem hi]
    rfl
  · rw [List.getElem?_eq_none (by rw [Array.length_toList,hacc.1,lw];omega),List.getElem?_eq_none (by simp;omega)]
theorem an0:∀ l:List (List Key×Addr×Value),Vals (l.map fun x=>V.ref x.2.1) (l.map fun x=>Value.ref x.2.1)
  | [] => .nil
  | _ :: r => .cons rfl (an0 r)
def z6:List D→Gp→oK→Prop:=fun xs G R=>match xs with
  | [.ref a]=>(match G a with
    | some (.dU true kvs)=>aKG (kvs.map fun p=>dkD p.1) G R
    | _=>False)
  | _=>False
theorem aGW (hc:X.calm=true):fL X (.builtin "sorted") z6:=by
  intro pins s σ H xs vs us G R Q I rx rv g q k
  unfold z6 at q
  split at q
  · rename_i a
    split at q
    · rename_i kvs e1
      obtain ⟨ps,ep,nd,h64,h⟩:=q
      cases rx with
      | cons r1 rr =>
      cases rr;cases r1
      cases rv with
      | cons rv rr =>
      cases rr
      cases rv
      rcases g a _ e1 with ⟨z,_⟩ | ⟨_,ys,e,r⟩
      · cases z
      · obtain ⟨es,epo,ws,hsm,raw,hz,rel,hall⟩:=aGV I e
        have rds:=arU r rel
        rw [ep] at rds
        have vi:=an0 ws
        have l1:ws.length=ps.length:=by have:=rds.length;simpa using this.symm
        refine ax6 (CV:=fun us _=>us=ws.map fun x=>Value.ref x.2.1) (fun R' E' hR=>kdu_collect (aOF hsm) (I.ok.hd hc) raw hz fun h' tk acc kk hacc=>hR _ h' tk kk (hall acc hacc)) fun us h1 tk k1 cv=>?_
        subst cv
        exact ⟨by rw [List.length_map,l1];exact h64,fun h' c k2 ho=>aj8 (s:={ s with heap:=h1,toks:=tk }) (I.kept (t':=tk) k1) g rds vi h64 k h (Nat.le_refl _) k2 ho⟩
    · exact q.elim
  · exact q.elim
end
end L2
namespace L2
open PySem PySem.Spec PyProof.Rows Builtin.Str
section
variable {prog:Program} {w:World} {A:Around} {E:Value→Shared→Prop} {s:Shared}
end
section
variable {X:Cx}
def aW9:RM3:=fun x xs G R=>match x,xs with
  | .str a,[.str b]=>(b.length == 0)=false∧a.length+2≤sizeLine∧(Txt.split a b).length≤sizeLine∧∀ q,G q=none→R (.ref q) (aQ G q (.lst ((Txt.split a b).map D.str)))
  | _,_=>False
def aKJ:List D→Gp→oK→Prop:=fun xs G R=>match xs with
  | [.int i]=>i.natAbs.log2 < 1920∧R (.str (toString i)) G
  | [.str z]=>R (.str z) G
  | _=>False
theorem aoQ:a3L X (.type "str") (fun xs H Q=>(∃ i,xs=[.int i]∧i.natAbs.log2 < 1920∧Q (.str (toString i)) H)∨∃ z,xs=[.str z]∧Q (.str z) H):=by
  intro pins s σ H xs us Q I r h
  rcases h with ⟨i,rfl,hz,q⟩ | ⟨z,rfl,q⟩
  · obtain ⟨u,rfl,t,rfl⟩:=vals1 r
    exact PySem.P.str_of_int hz ⟨.str _,H,I.tok _,⟨_,rfl⟩,q⟩
  · obtain ⟨u,rfl,t,rfl⟩:=vals1 r
    exact PySem.P.str_of_str ⟨.str _,H,I,⟨_,rfl⟩,q⟩
theorem aU5:fL X (.type "str") aKJ:=fL.of aoQ fun H xs vs G R Q rx g q k=>by
  cases rx with
  | nil=>exact False.elim q
  | cons r rr =>
    cases rr with
    | cons _ _=>cases r <;> exact False.elim q
    | nil =>
      cases r with
      | int i=>exact .inl ⟨i,rfl,q.1,fun _=>k _ H _ G (.refl H) (.str _) g q.2⟩
      | str z=>exact .inr ⟨z,rfl,fun _=>k _ H _ G (.refl H) (.str _) g q⟩
      | _=>exact False.elim q
def ax7:List D→Gp→oK→Prop:=fun xs G R=>match xs with
  | [.ref q]=>(match bZ G q with
    | some ds=>R (.tup ds) G
    | none=>False)
  | _=>False
theorem aGX:fL X (.type "tuple") ax7:=fL.of alH fun H xs vs G R Q rx g q k=>by
  cases rx with
  | nil=>exact False.elim q
  | cons r rr =>
    cases rr with
    | cons _ _=>cases r <;> exact False.elim q
    | nil =>
      cases r with
      | ref a =>
        have q':(match bZ G a with
          | some ds=>R (.tup ds) G
          | none=>False):=q
        split at q'
        · rename_i ds e1
          obtain ⟨xs,h1,r1⟩:=gW g e1
          refine ⟨a,xs,rfl,.inl ⟨h1,fun l hl kf=>?_⟩⟩
          have sn:Same H (upd H l (.tup xs)):=cU hl
          exact k _ _ _ _ (.same sn) (.tup (SqT.of aV) (r1.mono (.same sn)) aV) (g.same sn) q'
        · exact q'.elim
      | _=>exact False.elim q
end
end L2
namespace L2
open PySem PySem.Spec PyProof.Rows
section
variable {X:Cx} {pins:List (Addr×Obj)} {σ:St} {H:Hp} {s:Shared} {tl:List (Addr×List V)}
end
end L2
namespace L2
open PySem PySem.Spec PyProof.Rows PySem.W
section
variable {prog:Program} {w:World} {A:Around} {E:Value→Shared→Prop} {s:Shared}
def an1 (xs ps:List (Key×Value)):List (Key×Value):=ps.foldl (fun acc x=>stored acc x.1 x.2) xs
theorem aoR {h h':Heap} {d:Addr} {xs:List (Key×Value)} (hm:h.DictOf (bF prog w) d xs) (k:∀ o,h.get? d=some o→h'.get? d=some o):h'.DictOf (bF prog w) d xs:=by
  obtain ⟨o,es,ep,h1,r⟩:=hm
  exact ⟨o,es,ep,k _ h1,r⟩
def aCC (prog:Program) (w:World) (I d:Addr) (h:Heap) (v:Value) (x:Key×Value):Prop:=∃ p o n key,v = .ref p∧h.get? p=some o∧o.cls = .type "tuple" ∧ o.data = .seq #[key,x.2] n∧(bF prog w).is x.1 key=true∧p≠I∧p≠d
theorem aCC.keep {I d:Addr} {h h':Heap} {v:Value} {x:Key×Value} (q:aCC prog w I d h v x) (k:∀ b o,b≠d→b≠I→h.get? b=some o→h'.get? b=some o):aCC prog w I d h' v x:=by
  obtain ⟨p,o,n,key,e,h1,h2,h3,h4,h5,h6⟩:=q
  exact ⟨p,o,n,key,e,k _ _ h6 h5 h1,h2,h3,h4,h5,h6⟩
theorem aCD {R:Result→Shared→Prop} {d I l:Addr} {its:Array Value} {ps:List (Key×Value)} (hh:A.handled=none) (hdI:d≠I) (hlI:l≠I) (hld:l≠d) (hlen:its.size=ps.length) :
    ∀ (k i:Nat) (s:Shared) (xs:List (Key×Value)) (j:Int) (t:Tok),ps.length - i=k→i≤ps.length→s.heap.IsListIter I l i→s.heap.IsList l its→s.heap.DictOf (bF prog w) d xs→xs.length+(ps.length - i)≤sizeLine →
      (∀ (i:Nat) (v:Value) (x:Key×Value),its[i]?=some v→ps[i]?=some x→aCC prog w I d s.heap v x) →
      (∀ h' tk,h'.DictOf (bF prog w) d (an1 xs (ps.drop i))→(∀ b o,b≠d→b≠I→s.heap.get? b=some o→h'.get? b=some o)→R (.ok (.ret .none)) { s with heap:=h',toks:=tk }) →
      codeAny (model prog w) A (.builtin "dict.update.loop" ⟨[.ref d,.ref I,.int j t,.none],[]⟩) R s:=by
  intro k
  induction k with
  | zero =>
    intro i s xs j t hk hi hst hl hd hz hp hR
    have hin:i=ps.length:=by omega
    refine codeAny_builtin arT ?_
    rw [Around.under_plainId acY _]
    show wpAny _ A.in1 (pyNext (.ref I) >>= _) _ _ s
    have W:=Walks.list (prog:=prog) (w:=w) (A:=A.in1) hh I l hlI its
    refine wpAny_bind (W.done s _ _ (by rw [hlen,← hin];exact ⟨hst,hl⟩) fun h' tk kk=>?_)
    have hd':h'.DictOf (bF prog w) d xs:=aoR hd (fun o e=>kk _ _ (by simpa using hdI) e)
    show wpAny _ A.in1 (Builtin.Dict.addKeywords d [] >>= _) _ _ _
    refine wpAny_bind (wpAny_pure (wpAny_pure ?_))
    refine hR h' tk (by rw [hin,List.drop_length];exact hd') fun b o h1 h2 e=>kk b o (by simpa using h2) e
  | succ k ih =>
    intro i s xs j t hk hi hst hl hd hz hp hR
    have hlt:i < ps.length:=by omega
    refine codeAny_builtin arT ?_
    rw [Around.under_plainId acY _]
    show wpAny _ A.in1 (pyNext (.ref I) >>= _) _ _ s
    have W:=Walks.list (prog:=prog) (w:=w) (A:=A.in1) hh I l hlI its
    refine wpAny_bind (W.item i s _ _ (by omega) ⟨hst,hl⟩ fun v h' tk hP hst' kk=>?_)
    obtain ⟨x,hxi⟩:∃ x,ps[i]?=some x:=⟨_,List.getElem?_eq_getElem hlt⟩
    have k1:∀ b o,b≠d→b≠I→s.heap.get? b=some o→h'.get? b=some o:=fun b o _ h2 e=>kk b o (by simpa using h2) e
    have hd':h'.DictOf (bF prog w) d xs:=aoR hd (fun o e=>kk _ _ (by simpa using hdI) e)
    obtain ⟨p,o,n,key,rfl,q1,q2,q3,hkey,_,_⟩:=(hp i v x hP hxi).keep k1
    refine wpAny_bind (wpAny_holding (wpAny_bind (wpAny_tryCatch ?_)))
    unfold Builtin.Dict.pairItems
    refine wpAny_bind (wpAny_typeOf (s:={ s with heap:=h',toks:=tk }) (T := "tuple") ⟨o,q1,q2⟩ ?_)
    rw [if_pos (by decide)]
    refine wpAny_bind (wpAny_seqItems (s:={ s with heap:=h',toks:=tk }) q1 q3 (wpAny_pure ?_))
    show wpAny _ A.in1 (holding [key,x.2] (dictSet d key x.2)) _ _ _
    refine wpAny_holding (wpAny_dictSet_pairs (s:={ s with heap:=h',toks:=tk }) hkey hd' (fun h2 hd2 hs2=>?_) (by omega))
    have k2:∀ b o,b≠d→b≠I→s.heap.get? b=some o→h2.get? b=some o:=fun b o h1 hI e=>(hs2.2 b h1).trans (k1 b o h1 hI e)
    refine wpAny_pure ⟨plainId_quiet acY _,ih (i+1) _ (stored xs x.1 x.2) _ _ (by omega) hlt (hst'.1.at fun o e=>(hs2.2 I (Ne.symm hdI)).trans e) (hst'.2.at fun o e=>(hs2.2 l hld).trans e) hd2 (by have:=stored_length_le xs x.1 x.2;omega) (fun i v x e1 e2=>(hp i v x e1 e2).keep k2) fun h3 tk3 hd3 k3=>?_⟩
    refine hR h3 tk3 ?_ fun b o h1 hI e=>k3 b o h1 hI (k2 b o h1 hI e)
    have:ps.drop i=x :: ps.drop (i+1):=by
      rw [List.drop_eq_getElem_cons hlt]
      rw [List.getElem?_eq_getElem hlt] at hxi
      cases hxi;rfl
    rw [this]
    exact hd3
def aGY (prog:Program) (w:World) (h:Heap) (v:Value) (x:Key×Value):Prop:=∃ p o n key,v = .ref p∧h.get? p=some o∧o.cls = .type "tuple" ∧ o.data = .seq #[key,x.2] n∧(bF prog w).is x.1 key=true
theorem aGY.ok {I d:Addr} {h h':Heap} {v:Value} {x:Key×Value} (q:aGY prog w h v x) (hI:h.objs.size≤I) (hd:h.objs.size≤d) (k:∀ b o,h.get? b=some o→h'.get? b=some o):aCC prog w I d h' v x:=by
  obtain ⟨p,o,n,key,e,h1,h2,h3,h4⟩:=q
  have l1:=Heap.lt_size h1
  exact ⟨p,o,n,key,e,k _ _ h1,h2,h3,h4,Nat.ne_of_lt (Nat.lt_of_lt_of_le l1 hI),Nat.ne_of_lt (Nat.lt_of_lt_of_le l1 hd)⟩
theorem aCE {l:Addr} {o:Obj} {its:Array Value} {n:Nat} {ps:List (Key×Value)} {Q:Value→Shared→Prop} (hh:A.handled=none) (hl:s.heap.get? l=some o) (hc:o.cls = .type "list") (hdat:o.data = .seq its n) (hdn:o.dict=none) (hlen:its.size=ps.length) (hz:ps.length≤sizeLine)
    (hp:∀ (i:Nat) (v:Value) (x:Key×Value),its[i]?=some v→ps[i]?=some x→aGY prog w s.heap v x)
    (h:∀ h' tk,h'.DictOf (bF prog w) s.heap.objs.size (an1 [] ps)→(∀ b o,s.heap.get? b=some o→h'.get? b=some o)→Q (.ref s.heap.objs.size) { s with heap:=h',toks:=tk }) :
    wpAny (model prog w) A (call (.type "dict") [.ref l]) Q E s:=by
  refine callType_codes (Q₁:=fun obj s₁=>obj = .ref s.heap.objs.size∧s₁={ s with heap:=s.heap.push { cls := .type "dict",data := .dict #[] } }) F.kt_called_dict (F.kt_typeCall_dict_1 _) F.entry_dict_init (kt_code_dict_new _ ⟨rfl,rfl⟩) ?_
  rintro obj s₁ ⟨rfl,rfl⟩
  have kp:∀ b o,s.heap.get? b=some o→(s.heap.push { cls := .type "dict",data := .dict #[] }).get? b=some o:=fun b o e=>Heap.get?_push_of_some _ e
  have hnew:(s.heap.push { cls := .type "dict",data := .dict #[] }).DictOf (bF prog w) s.heap.objs.size []:=Heap.DictOf.new s.heap
  have hdl:l≠s.heap.objs.size:=Nat.ne_of_lt (Heap.lt_size hl)
  refine ⟨hnew.typeIs,F.args_dict_init_2 _ _,?_⟩
  unfold Builtin.«dict.__init__»
  refine wpAny_bind ?_
  unfold Builtin.Dict.selfAndRest
  refine wpAny_bind (wpAny_notOrdered_dict hnew.typeIs ?_)
  show wpAny _ _ (pure (s.heap.objs.size,[Value.ref l])) _ _ _
  refine wpAny_pure ?_
  show wpAny _ _ (Builtin.Dict.updateFrom "dict.__init__" s.heap.objs.size (.ref l) [] .none) _ _ _
  unfold Builtin.Dict.updateFrom
  refine wpAny_bind (wpAny_typeOf (T := "list") ⟨o,kp _ _ hl,hc⟩ ?_)
  rw [if_pos (by decide)]
  refine wpAny_bind (aGS (kp _ _ hl) hc hdat hdn hh fun h' tk k1=>?_)
  rw [if_pos (by rfl)]
  refine wpAny_bind (wpAny_rule ?_)
  have hl1:h'.IsList l its:=⟨o,k1 _ _ (kp _ _ hl),hc,n,hdat⟩
  refine wpAny_bind (wpAny_pyIter_list (s:={ s with heap:=h',toks:=tk }) hl1 ?_)
  have k2:∀ b o,s.heap.get? b=some o→(h'.push { cls := .type "list_iterator",data := .fields #[.ref l,rawInt 0] }).get? b=some o:=fun b o e=>Heap.get?_push_of_some _ (k1 _ _ (kp _ _ e))
  have sz1:s.heap.objs.size < h'.objs.size:=Heap.lt_size (k1 s.heap.objs.size _ (Heap.get?_push_size _ rfl))
  refine wpAny_pure ⟨plainId_quiet acY _,aCD (A:=A.in1) (its:=its) (ps:=ps) hh (Nat.ne_of_lt sz1) (Nat.ne_of_lt (Heap.lt_size hl1.choose_spec.1)) hdl hlen ps.length 0 _ [] _ _ rfl (Nat.zero_le _) ⟨_,Heap.get?_push_size _ rfl,rfl,rfl⟩ (hl1.at fun o e=>Heap.get?_push_of_some _ e) (aoR hnew (fun o e=>Heap.get?_push_of_some _ (k1 _ _ e))) (by simp;omega) (fun i v x e1 e2=>(hp i v x e1 e2).ok (Nat.le_of_lt sz1) (Nat.le_refl _) k2) fun h3 tk3 hd3 k3=>?_⟩
  exact ⟨rfl,h h3 tk3 hd3 fun b o e=>k3 b o (Nat.ne_of_lt (Heap.lt_size e)) (Nat.ne_of_lt (Nat.lt_trans (Heap.lt_size e) sz1)) (k2 b o e)⟩
end
def aKK:D→Option (Key×D)
  | .tup [y,z]=>(match aC6 y with
    | some k=>some (k,z)
    | none=>none)
  | _=>none
def aoS:List D→Option (List (Key×D))
  | []=>some []
  | d :: r=>match aKK d,aoS r with
    | some p,some ps=>some (p :: ps)
    | _,_=>none
def aCF (kvs:List (DK×D)) (ps:List (Key×D)):List (DK×D):=ps.foldl (fun acc p=>oN acc (.inl p.1) p.2) kvs
inductive azB (K:Fg) (H:Hp):List (Key×D)→List (Key×Value)→Prop where
  | nil:azB K H [] []
  | cons {k:Key} {vz:V} {u:Value} {d:D} {kvs:List (Key×D)} {ps:List (Key×Value)}:RD K H d vz→RelV vz u→azB K H kvs ps→azB K H ((k,d) :: kvs) ((k,u) :: ps)
theorem azC (ps:List (Key×Value)):∀ xs,(an1 xs ps).length≤xs.length+ps.length:=by
  induction ps with
  | nil=>intro xs;simp [an1]
  | cons p r ih =>
    intro xs
    have:=ih (stored xs p.1 p.2)
    have:=stored_length_le xs p.1 p.2
    simp only [an1,List.foldl_cons,List.length_cons] at *
    omega
theorem azB.fold {K:Fg} {H:Hp} {kvs:List (Key×D)} {ps:List (Key×Value)} (h:azB K H kvs ps):∀ {k0:List (DK×D)} {y0:List (Key×V)} {p0:List (Key×Value)},KV y0 p0→a5D K H .inl k0 y0→∃ ys,KV ys (an1 p0 ps)∧a5D K H .inl (aCF k0 kvs) ys:=by
  induction h with
  | nil=>intro k0 y0 p0 a b;exact ⟨y0,a,b⟩
  | @cons k vz u d kvs ps rd rv _ ih =>
    intro k0 y0 p0 a c
    exact ih (KV.put a k rv) (acW yZ rd c)
section
variable {X:Cx}
theorem ax8 {pins:List (Addr×Obj)} {σ:St} {H:Hp} {s:Shared} (I:Inv X pins σ H s):∀ {ds:List D} {zs:List V} {its:List Value} {kvs:List (Key×D)},iG X.K H ds zs→Vals zs its→aoS ds=some kvs →
    ∃ ps,azB X.K H kvs ps∧its.length=ps.length∧∀ (i:Nat) (v:Value) (x:Key×Value),its[i]?=some v→ps[i]?=some x→aGY X.prog X.w s.heap v x
  | _,_,_,_,.nil,.nil,e=>by cases e;exact ⟨[],.nil,rfl,fun i v x e=>by simp at e⟩
  | d :: ds,z :: zs,u :: its,kvs,.cons r rs,.cons v vs,e=>by
    unfold aoS at e
    split at e
    · rename_i p ps' e1 e2
      cases e
      obtain ⟨ps,hp,hl,hq⟩:=ax8 I rs vs e2
      unfold aKK at e1
      split at e1
      · rename_i y z'
        split at e1
        · rename_i k e3
          cases e1
          cases r with
          | @tup a xs _ sq rr _ =>
          obtain rfl:u=Value.ref a:=v
          cases rr with
          | cons r1 rr =>
          cases rr with
          | @cons _ vz _ _ r2 rr =>
          cases rr
          have ek:=ax2 r1 e3
          subst ek
          obtain ⟨i2,vi,⟨o,h1,h2,n,h3⟩,_⟩:=I.tuple sq
          cases vi with
          | @cons _ uk _ _ va vi =>
          cases vi with
          | @cons _ uz _ _ vb vi =>
          cases vi
          refine ⟨(k,uz) :: ps,.cons r2 vb hp,by simp [hl],fun i v x e1 e2=>?_⟩
          cases i with
          | zero =>
            simp at e1 e2
            subst e1 e2
            exact ⟨a,o,n,uk,rfl,h1,h2,by simpa using h3,aaX va⟩
          | succ i=>exact hq i v x (by simpa using e1) (by simpa using e2)
        · cases e1
      · cases e1
    · cases e
def a5F:List D→Gp→oK→Prop:=fun xs G R=>match xs with
  | [.ref a]=>(match bZ G a with
    | some ds=>(match aoS ds with
      | some kvs=>∀ r,G r=none→R (.ref r) (aQ G r (.dU false (aCF [] kvs)))
      | none=>False)
    | none=>False)
  | _=>False
theorem aGZ (hc:X.calm=true):fL X (.type "dict") a5F:=by
  intro pins s σ H xs vs us G R Q I rx rv g q k
  unfold a5F at q
  split at q
  · rename_i a
    split at q
    · rename_i ds e1
      split at q
      · rename_i kvs e2
        cases rx with
        | cons r1 rr =>
        cases rr;cases r1
        cases rv with
        | cons rv rr =>
        cases rr
        cases rv
        obtain ⟨zs,hq,r⟩:=gW g e1
        obtain ⟨its,vi,⟨o,n,h1,h2,h3,h4⟩,hz⟩:=I.list hq
        obtain ⟨ps,hp,hl,hat⟩:=ax8 I r vi e2
        have hpz:ps.length≤sizeLine:=by rw [← hl,← vi.length];exact hz
        refine aCE (I.ok.hd hc) h1 h2 h4 h3 (by simpa using hl) hpz (fun i v x e1 e2=>hat i v x (by simpa using e1) e2) fun h' tk hd kk=>?_
        obtain ⟨ys,kt,tw⟩:=hp.fold (k0:=[]) (y0:=[]) (p0:=[]) .nil .nil
        have fr:H s.heap.objs.size=none:=I.hok.fresh (Nat.le_refl _)
        have sn:Same H (upd H s.heap.objs.size (.dK ys)):=cU fr
        have hys:ys.length≤sizeLine:=by rw [KV.length kt];have:=azC ps [];simp at this;omega
        have J:Inv X pins σ (upd H s.heap.objs.size (.dK ys)) { s with heap:=h',toks:=tk }:=I.laid (t':=tk) (o := .dK ys) kk (Nat.le_refl _) ⟨hys,(by have:=I.big;simp;exact Nat.ne_of_gt this),_,kt,hd⟩
        exact ⟨.ref s.heap.objs.size,_,J,rfl,k _ _ (.ref _) _ (.same sn) (.ref _) (g.put (u := .dU false _) fr (.inl ⟨rfl,ys,aV,tw.imp fun _ _ z=>⟨z.1,z.2.mono (.same sn)⟩⟩)) (q _ (tH g fr (a6X J)))⟩
      · exact q.elim
    · exact q.elim
  · exact q.elim
end
end L2
namespace L2
open PySem PySem.Spec PyProof.Rows PySem.W
section
variable {prog:Program} {w:World} {A:Around} {E:Value→Shared→Prop} {s:Shared}
end
section
variable {X:Cx}
end
end L2
namespace L2
open PySem PySem.Spec PyProof.Rows PySem.W
section
variable {X:Cx}
theorem Inv.grown {pins:List (Addr×Obj)} {σ:St} {H H':Hp} {s:Shared} {h':Heap} {t':Nat} (I:Inv X pins σ H s) (k:∀ b u,s.heap.get? b=some u→h'.get? b=some u) (hs:Same H H') (hn:∀ b u,H' b=some u→H b=some u∨(s.heap.objs.size≤b∧oJ X.prog X.w H' h' b u)):Inv X pins σ H' { s with heap:=h',toks:=t' }:=by
  refine I.un ⟨fun b ob q _ _ _=>k b ob q,fun b ob q _ _ _=>⟨ob.slots,k b ob q⟩,fun b ob q n _=>?_,fun b ob q _=>⟨ob,k b ob q⟩,fun b xs q=>hs _ _ q,fun b o u q=>hs _ _ q,fun b ps q=>⟨#[],by rw [hs _ _ q];simp⟩⟩ fun a o e=>?_
  · cases z:H' b with
    | none=>rfl
    | some u =>
      rcases hn b u z with w | ⟨w,_⟩
      · rw [n] at w;cases w
      · exact absurd (Heap.lt_size q) (Nat.not_lt.mpr w)
  · rcases hn a o e with w | ⟨_,w⟩
    · exact (I.hok a o w).stay (fun c v _ q=>k c v q) (fun c q=>hs _ _ q) fun c xs q=>hs _ _ q
    · exact w
theorem azD {pins:List (Addr×Obj)} {σ:St} {H:Hp} {s:Shared} {h1:Heap} {tk:Nat} (I:Inv X pins σ H s) (k:∀ b u,s.heap.get? b=some u→h1.get? b=some u) {as:List Addr} {ys:Nat→List V} {us:Nat→List Value} (nd:as.Nodup) (hi:∀ a∈as,s.heap.objs.size≤a)
    (ht:∀ j a,as[j]?=some a→Vals (ys j) (us j)∧(ys j).length≤sizeLine∧IsTup h1 a (us j).toArray):∃ H1,Inv X pins σ H1 { s with heap:=h1,toks:=tk }∧Same H H1∧∀ j a,as[j]?=some a→H1 a=some (.tup (ys j)):=by
  have fr:∀ a∈as,H a=none:=fun a ha=>I.hok.fresh (hi a ha)
  let H1:Hp:=fun b=>if b∈as then some (.tup (ys (as.idxOf b))) else H b
  have sm:Same H H1:=fun b o e=>by
    show (if b∈as then _ else _)=_
    rw [if_neg]
    · exact e
    · intro z;rw [fr b z] at e;cases e
  have at1:∀ j a,as[j]?=some a→H1 a=some (.tup (ys j)):=fun j a e=>by
    obtain ⟨hj,e2⟩:=List.getElem?_eq_some_iff.mp e
    show (if a∈as then _ else _)=_
    rw [if_pos (List.mem_of_getElem? e),← e2,nd.idxOf_getElem]
  refine ⟨H1,I.grown k sm fun b u e=>?_,sm,at1⟩
  by_cases z:b∈as
  · right
    refine ⟨hi b z,?_⟩
    obtain ⟨j,hj⟩:=List.mem_iff_getElem?.mp z
    have e3:=at1 j b hj
    rw [e3] at e
    cases e
    obtain ⟨t1,t2,t3⟩:=ht j b hj
    exact ⟨t2,us j,t1,t3⟩
  · left
    have e':(if b∈as then some (.tup (ys (as.idxOf b))) else H b)=some u:=e
    rw [if_neg z] at e'
    exact e'
def kpD (p:Int×Int):DK×D:=(.inl (.inl p.1),.int p.2)
theorem aoT {K:Fg} {H:Hp}:∀ {ps:List (Int×Int)} {ys:List (Key×V)},a5D K H .inl (ps.map kpD) ys→ys=ps.map fun p=>(.inl p.1,.int p.2)
  | [],_,.nil=>rfl
  | p :: ps,y :: ys,.cons h r=>by
    obtain ⟨k,v⟩:=y
    obtain ⟨h1,h2⟩:=h
    have e1:(Sum.inl p.1:Key)=k:=by
      have:(Sum.inl (Sum.inl p.1):DK) = .inl k:=h1
      exact yZ _ _ this
    cases h2
    rw [aoT r,← e1]
    rfl
theorem agA:∀ {ps:List (Int×Int)} {vs:List (Key×Value)},KV (ps.map fun p=>((.inl p.1:Key),V.int p.2)) vs→vs.length=ps.length∧vs.map (·.1)=ps.map (fun p=>(.inl p.1:Key))∧∀ (j:Nat) (p:Int×Int),ps[j]?=some p→∃ t,vs[j]?=some (.inl p.1,Value.int p.2 t)
  | [],_,.nil=>⟨rfl,rfl,fun j p e=>by simp at e⟩
  | p :: ps,v :: vs,.cons h r=>by
    obtain ⟨a1,a2,a3⟩:=agA r
    obtain ⟨k,u⟩:=v
    obtain ⟨h1,t,h2⟩:=h
    cases h1
    cases h2
    refine ⟨by simp [a1],by simp [a2],fun j q e=>?_⟩
    cases j with
    | zero=>simp at e;subst e;exact ⟨t,rfl⟩
    | succ j=>exact a3 j q (by simpa using e)
theorem arV {K:Fg} {H:Hp}:∀ {ps:List (Int×Int)} {as:List Addr},as.length=ps.length→(∀ (j:Nat) (a:Addr) (p:Int×Int),as[j]?=some a→ps[j]?=some p→H a=some (.tup [.int p.1,.int p.2]))→iG K H (ps.map prV) (as.map V.ref)
  | [],[],_,_ => .nil
  | p :: ps,a :: as,hl,h=>by
    have e:=h 0 a p rfl rfl
    exact .cons (.tup (.inl (.of e)) (.cons (.int _) (.cons (.int _) .nil)) e) (arV (by simpa using hl) fun j b q e1 e2=>h (j+1) b q (by simpa using e1) (by simpa using e2))
theorem ax9:∀ as:List Addr,Vals (as.map V.ref) (as.map Value.ref)
  | [] => .nil
  | _ :: r => .cons rfl (ax9 r)
theorem av7 {pins:List (Addr×Obj)} {σ:St} {H:Hp} {s:Shared} {G:Gp} {R:oK} {Q:VK} (hc:X.calm=true) (I:Inv X pins σ H s) (g:HR X.K H G) {a r:Addr} {ps:List (Int×Int)} (e:G a=some (.dU false (ps.map kpD))) (h64:ps.length < 2) (hv:s.heap.IsItemsView r a)
    (h:∀ qs:List (Int×Int),qs.Perm ps→tU qs→∀ r,G r=none→R (.ref r) (aQ G r (.lst (qs.map prV)))) (k:∀ v H' d G',Ts H H'→RD X.K H' d v→HR X.K H' G'→R d G'→Q v H'):wpAny (model X.prog X.w) X.A (call (.builtin "sorted") [.ref r]) (EP X pins σ Q) X.xe s:=by
  have big:1000 < sizeLine:=by decide
  rcases g a _ e with ⟨_,ys,e1,tw⟩ | ⟨z,_⟩
  · have ey:=aoT tw
    subst ey
    obtain ⟨z1,hsm,vs,kv,hd⟩:=ag7 I.hok e1
    obtain ⟨l1,l2,l3⟩:=agA kv
    obtain ⟨o,es,ep,q1,q2,q3,q4,q5,q6⟩:=hd
    have hat:s.heap.DictAt (bF X.prog X.w) a vs ep:=⟨o,es,q1,q2,q3,q4,q5,q6⟩
    have nk:(ps.map fun p=>(.inl p.1:Key)).Nodup:=by rw [← l2];exact q6
    have nd:ps.Nodup:=(List.pairwise_map.mp nk).imp fun h z=>h (by rw [z])
    refine ax6 (CV:=fun us h'=>∃ as:List Addr,us=as.map Value.ref∧as.length=ps.length∧KdxG (bF X.prog X.w) vs s.heap.objs.size h' as) (fun R' E' hR=>kdx_collect (I.ok.hd hc) hv hat (by omega) fun h' tk as kk hl hG=>hR _ h' tk kk ⟨as,rfl,hl.trans l1,hG⟩) fun us h1 tk k1 cv=>?_
    obtain ⟨as,rfl,hl,hG⟩:=cv
    have ex:∀ j:Nat,∃ uu:List Value,∀ b,as[j]?=some b→Vals [V.int (ps.getD j (0,0)).1,V.int (ps.getD j (0,0)).2] uu∧IsTup h1 b uu.toArray:=fun j=>by
      cases ea:as[j]? with
      | none=>exact ⟨[],fun b z=>by cases z⟩
      | some b =>
        obtain ⟨key,kk,x,p1,p2,p3⟩:=hG.pairs j b ea
        have hj:j < ps.length:=by rw [← hl];exact (List.getElem?_eq_some_iff.mp ea).1
        obtain ⟨t,p4⟩:=l3 j ps[j] (List.getElem?_eq_getElem hj)
        rw [p4] at p1
        cases p1
        have gd:ps.getD j (0,0)=ps[j]:=getD_at hj
        refine ⟨[key,Value.int ps[j].2 t],fun b' z=>?_⟩
        cases z
        rw [gd]
        refine ⟨.cons ?_ (.cons ⟨t,rfl⟩ .nil),⟨_,p3,rfl,_,rfl⟩⟩
        rcases iZ (show aiG (Sum.inl ps[j].1) key=true from p2) with ⟨i,t',e1,e2⟩ | ⟨i,t',e1,e2⟩
        · cases e1
          exact ⟨t',e2⟩
        · cases e1
    obtain ⟨us,hus⟩:=Classical.axiomOfChoice ex
    obtain ⟨H1,I1,sm,at1⟩:=azD (tk:=tk) I k1 (as:=as) (ys:=fun j=>[V.int (ps.getD j (0,0)).1,V.int (ps.getD j (0,0)).2]) (us:=us) (hG.rise.imp Nat.ne_of_lt) (fun b hb=>Nat.le_of_lt (hG.above b hb)) fun j b e=>⟨(hus j b e).1,by show 2≤sizeLine;omega,(hus j b e).2⟩
    have rds:iG X.K H1 (ps.map prV) (as.map V.ref):=arV hl fun j b p e1 e2=>by
      have z:=at1 j b e1
      obtain ⟨hj,e3⟩:=List.getElem?_eq_some_iff.mp e2
      rw [getD_at hj,e3] at z
      exact z
    have vi:=ax9 as
    have g1:HR X.K H1 G:=g.same sm
    exact ⟨by rw [List.length_map,hl];exact h64,fun h' c k2 ho=>aj8 (s:={ s with heap:=h1,toks:=tk }) I1 g1 rds vi h64 (fun v H' d G' t=>k v H' d G' ((Ts.same sm).trans t)) h (Nat.le_refl _) k2 ho⟩
  · cases z
def a1C (x:D) (G:Gp) (R:oK):Prop:=match x with
  | .ref a=>(match G a with
    | some (.dU false kvs)=>∃ ps:List (Int×Int),kvs=ps.map kpD∧ps.length < 2∧∀ qs:List (Int×Int),qs.Perm ps→tU qs→∀ r,G r=none→R (.ref r) (aQ G r (.lst (qs.map prV)))
    | _=>False)
  | _=>False
theorem av8 {x:D} {G:Gp} {R:oK} (h:a1C x G R):∃ a,∃ ps:List (Int×Int),x = .ref a∧G a=some (.dU false (ps.map kpD))∧ps.length < 2∧∀ qs:List (Int×Int),qs.Perm ps→tU qs→∀ r,G r=none→R (.ref r) (aQ G r (.lst (qs.map prV))):=by
  unfold a1C at h
  split at h
  · split at h
    · rename_i e
      obtain ⟨ps,rfl,h1,h2⟩:=h
      exact ⟨_,ps,rfl,e,h1,h2⟩
    · exact h.elim
  · exact h.elim
def acZ (to:dX):dX:=fun ρ G R=>to ρ G fun x G1=>a1C x G1 R
theorem axA {K:Fg} {H:Hp} {G:Gp} {a:Addr} {kvs:List (DK×D)} (g:HR K H G) (e:G a=some (.dU false kvs)):IsD H a:=by
  rcases g a _ e with ⟨_,ys,e1,_⟩ | ⟨z,_⟩
  · exact .inl ⟨ys,.of e1⟩
  · cases z
theorem aH0 {o:Expr} {to:dX} {x:Str} {apos cpos p pos:Pos} (hc:X.calm=true) (ho:gG X o to) (hg:Gl X x) (hm:X.mg x=none) (hv:bootBuiltins x=some (.builtin "sorted")) (hn:x ≠ "__name__") (hdb:(x == ("__debug__" : Str))=false)
    (hbase:attributeBase o "items" X.env (eval o X.env)=eval o X.env) (hline:(apos.endLine == cpos.line)=true) :
    gG X (.Call (.Name x p) [.Call (.Attribute o "items" apos) [] [] cpos] [] pos) (acZ to):=by
  intro pins s σ H Q I h
  obtain ⟨ρ,G,R,sr,g,q,kk⟩:=h
  refine wpAny_Call_Name_kw (aeL I hg hm hv ?_ hn hdb)
  refine PyProof.Rows.callWith_builtin1 (Calls.spliced_cons ?_)
  refine wpAny_Call_method0_late hbase hline (kY (ho pins s σ H (fun vx H1=>Ts H H1∧∃ x G1,RD X.K H1 x vx∧HR X.K H1 G1∧a1C x G1 R) I ⟨ρ,G,_,sr,g,q,fun v H1 x G1 t1 r1 g1 q1=>⟨t1,x,G1,r1,g1,q1⟩⟩) fun v s1 ⟨vx,H1,I1,r1,t1,x1,G1,rx,g1,q1⟩=>?_)
  obtain ⟨a,ps,rfl,e1,h64,hq⟩:=av8 q1
  cases rx
  obtain rfl:v=Value.ref a:=r1
  obtain ⟨h1,h2,h3⟩:=ao2 I1 (axA g1 e1)
  refine ⟨"dict", "dict.items",PySem.F.plainAttrs_dict,PySem.F.slot_dict_items,PySem.F.type_dict_items,h1,h2,Calls.callWith_builtin rfl (PySem.evalArgs_none ?_)⟩
  rcases g1 a _ e1 with ⟨_,ys,e2,tw⟩ | ⟨z,_⟩
  · obtain ⟨z1,hsm,vs,kv,hd⟩:=ag7 I1.hok e2
    refine call_meetsIn PySem.F.slot_dict_items h1 PySem.F.entry_dict_items (PySem.F.args_dict_items_1 _) (meets_dict_items (bF X.prog X.w) a hsm) ⟨⟨vs,hd⟩,?_⟩
    refine Calls.spliced_nil ?_
    have I2:Inv X pins σ H1 { s1 with heap:=s1.heap.push { cls := .type "dict_items",data := .fields #[.ref a] },toks:=s1.toks }:=I1.kept fun b o e=>Heap.get?_push_of_some _ e
    exact av7 (s:={ s1 with heap:=s1.heap.push { cls := .type "dict_items",data := .fields #[.ref a] } }) hc I2 g1 e1 h64 ⟨_,Heap.get?_push_size _ rfl,rfl,rfl⟩ hq fun v H' d G' t=>kk v H' d G' (t1.trans t)
  · cases z
theorem arW:∀ l:List Int,preSum (fun i=>l.getD i 0) l.length=l.sum
  | []=>rfl
  | x :: l=>by
    rw [List.length_cons,kdu_shift,List.sum_cons,← arW l]
    rfl
def a86 (x:D) (G:Gp) (R:oK):Prop:=match x with
  | .ref a=>(match G a with
    | some (.dU false kvs)=>∃ ps:List (Int×Int),kvs=ps.map kpD∧R (.int (ps.map (·.2)).sum) G
    | _=>False)
  | _=>False
theorem azE {x:D} {G:Gp} {R:oK} (h:a86 x G R):∃ a,∃ ps:List (Int×Int),x = .ref a∧G a=some (.dU false (ps.map kpD))∧R (.int (ps.map (·.2)).sum) G:=by
  unfold a86 at h
  split at h
  · split at h
    · rename_i e
      obtain ⟨ps,rfl,h1⟩:=h
      exact ⟨_,ps,rfl,e,h1⟩
    · exact h.elim
  · exact h.elim
def aoU (to:dX):dX:=fun ρ G R=>to ρ G fun x G1=>a86 x G1 R
theorem aOJ {o:Expr} {to:dX} {x:Str} {apos cpos p pos:Pos} (hc:X.calm=true) (ho:gG X o to) (hg:Gl X x) (hm:X.mg x=none) (hv:bootBuiltins x=some (.builtin "sum")) (hn:x ≠ "__name__") (hdb:(x == ("__debug__" : Str))=false)
    (hbase:attributeBase o "values" X.env (eval o X.env)=eval o X.env) (hline:(apos.endLine == cpos.line)=true) :
    gG X (.Call (.Name x p) [.Call (.Attribute o "values" apos) [] [] cpos] [] pos) (aoU to):=by
  intro pins s σ H Q I h
  obtain ⟨ρ,G,R,sr,g,q,kk⟩:=h
  refine wpAny_Call_Name_kw (aeL I hg hm hv ?_ hn hdb)
  refine PyProof.Rows.callWith_builtin1 (Calls.spliced_cons ?_)
  refine wpAny_Call_method0_late hbase hline (kY (ho pins s σ H (fun vx H1=>Ts H H1∧∃ x G1,RD X.K H1 x vx∧HR X.K H1 G1∧a86 x G1 R) I ⟨ρ,G,_,sr,g,q,fun v H1 x G1 t1 r1 g1 q1=>⟨t1,x,G1,r1,g1,q1⟩⟩) fun v s1 ⟨vx,H1,I1,r1,t1,x1,G1,rx,g1,q1⟩=>?_)
  obtain ⟨a,ps,rfl,e1,hq⟩:=azE q1
  cases rx
  obtain rfl:v=Value.ref a:=r1
  obtain ⟨h1,h2,h3⟩:=ao2 I1 (axA g1 e1)
  refine ⟨"dict", "dict.values",PySem.F.plainAttrs_dict,PySem.F.slot_dict_values,PySem.F.type_dict_values,h1,h2,Calls.callWith_builtin rfl (PySem.evalArgs_none ?_)⟩
  rcases g1 a _ e1 with ⟨_,ys,e2,tw⟩ | ⟨z,_⟩
  · have ey:=aoT tw
    subst ey
    obtain ⟨z1,hsm,vs,kv,hd⟩:=ag7 I1.hok e2
    obtain ⟨l1,l2,l3⟩:=agA kv
    refine call_meetsIn PySem.F.slot_dict_values h1 PySem.F.entry_dict_values (PySem.F.args_dict_values_1 _) (meets_dict_values (bF X.prog X.w) a hsm) ⟨⟨vs,hd⟩,?_⟩
    refine Calls.spliced_nil ?_
    obtain ⟨o,es,ep,q1,q2,q3,q4,q5,q6⟩:=hd
    let oV:Obj:={ cls := .type "dict_values",data := .fields #[.ref a] }
    have hat:(s1.heap.push oV).DictAt (bF X.prog X.w) a vs ep:=⟨o,es,Heap.get?_push_of_some _ q1,q2,q3,q4,q5,q6⟩
    have hvw:(s1.heap.push oV).IsValuesView s1.heap.objs.size a:=⟨_,Heap.get?_push_size _ rfl,rfl,rfl⟩
    refine call_sum_walkAnyS ?_
    have KS:=kdl_values (prog:=X.prog) (w:=X.w) (knd:=bF X.prog X.w) (r:=s1.heap.objs.size) (d:=a) (kvs:=vs) (ep:=ep)
    obtain ⟨oI,St,hit,W,st⟩:=KS.iter X.A.in1 { s1 with heap:=s1.heap.push oV } (I1.ok.hd hc) ⟨hvw,hat⟩
    refine hit _ _ ⟨(s1.heap.push oV).objs.size,_,_,_,vs.length,_,_,(fun i=>(ps.map (·.2)).getD i 0),rfl,W.toS,st,fun b hb=>?_,?_,fun s' t' hm=>?_⟩
    · show b < ((s1.heap.push oV).push oI).objs.size
      rw [size_push']
      rcases List.mem_cons.mp hb with e | hb
      · rw [e];exact Nat.lt_succ_self _
      · rw [List.mem_singleton.mp hb];exact Nat.lt_succ_of_lt (KS.there _ ⟨hvw,hat⟩).2
    · intro i v hP
      obtain ⟨k,hk⟩:=hP
      have hi:i < ps.length:=by rw [← l1];exact (List.getElem?_eq_some_iff.mp hk).1
      obtain ⟨t,p4⟩:=l3 i ps[i] (List.getElem?_eq_getElem hi)
      rw [p4] at hk
      cases hk
      refine ⟨t,?_⟩
      have:(ps.map (·.2)).getD i 0=ps[i].2:=by simp [List.getD,hi]
      show Value.int ps[i].2 t=Value.int ((ps.map (·.2)).getD i 0) t
      rw [this]
    · have hk:∀ b o,s1.heap.get? b=some o→s'.heap.get? b=some o:=fun b o e =>
        hm.heap b o (fun hI=>absurd (Heap.lt_size e) (by have z:=List.mem_singleton.mp hI;rw [z];show ¬ (s1.heap.push oV).objs.size < _;rw [size_push'];exact Nat.not_lt.mpr (Nat.le_succ _))) (Heap.get?_push_of_some _ (Heap.get?_push_of_some _ e))
      rw [Moved.eq_with hm]
      have e5:vs.length=(ps.map (·.2)).length:=by rw [List.length_map,l1]
      rw [e5,arW]
      exact ⟨.int _,H1,I1.kept hk,⟨t',rfl⟩,kk _ H1 _ G1 t1 (.int _) g1 hq⟩
  · cases z
end
end L2
namespace L2
open PySem PySem.Spec PyProof.Rows PySem.W
section
variable {prog:Program} {w:World} {A:Around} {E:Value→Shared→Prop} {s:Shared}
def aH1 (prog:Program) (w:World) (A:Around) (s:Shared) (x y:Value) (b:Bool):Prop:=∀ (E:Value→Shared→Prop) (Q:Bool→Shared→Prop),Q b s→wpAny (model prog w) A (eqBool x y) Q E s
def eqM (ps qs:List (Int×Int)):Bool:=ps.length == qs.length&&ps.all fun p=>bD qs p.1 == some p.2
theorem axB {i:Int}:∀ qs:List (Int×Int),a7S (qs.map fun p=>((.inl p.1:Key),V.int p.2)) (.inl i)=(bD qs i).map V.int
  | []=>rfl
  | q :: qs=>by
    rw [List.map_cons]
    by_cases c:q.1=i
    · rw [a7Y (by rw [c])]
      show _=(if q.1=i then some q.2 else bD qs i).map V.int
      rw [if_pos c]
      rfl
    · rw [a7Z (fun z=>c (by simpa using z)),axB qs]
      show _=(if q.1=i then some q.2 else bD qs i).map V.int
      rw [if_neg c]
theorem aiB {qs:List (Int×Int)} {kb:List (Key×Value)} (hb:KV (qs.map fun p=>((.inl p.1:Key),V.int p.2)) kb):∀ {ps:List (Int×Int)} {ka:List (Key×Value)},KV (ps.map fun p=>((.inl p.1:Key),V.int p.2)) ka→KeqHits A s kb ka (ps.all fun p=>bD qs p.1 == some p.2)
  | [],_,.nil => .nil
  | p :: ps,v :: ka,.cons h r=>by
    obtain ⟨k,u⟩:=v
    obtain ⟨h1,t,h2⟩:=h
    cases h1
    cases h2
    have ih:=aiB hb r
    have vl:=KV.val hb (.inl p.1)
    rw [axB] at vl
    rw [List.all_cons]
    cases e:bD qs p.1 with
    | none =>
      rw [e] at vl
      have e2:valueAt kb (.inl p.1)=none:=by
        cases z:valueAt kb (.inl p.1) with
        | none=>rfl
        | some y=>rw [z] at vl;exact vl.elim
      exact .miss e2
    | some y =>
      rw [e] at vl
      cases z:valueAt kb (.inl p.1) with
      | none=>rw [z] at vl;exact vl.elim
      | some u =>
        rw [z] at vl
        obtain ⟨t',e3⟩:∃ t',u=Value.int y t':=vl
        subst e3
        have eb:((some y:Option Int) == some p.2)=(p.2 == y):=by
          show (y == p.2)=_
          exact Bool.eq_iff_iff.mpr ⟨fun z=>beq_iff_eq.mpr (beq_iff_eq.mp z).symm,fun z=>beq_iff_eq.mpr (beq_iff_eq.mp z).symm⟩
        rw [eb]
        exact .hit z ((MeetsSeq.EqGives.int _ _ _ _).at _ _) ih
theorem aH2 {a b:Addr} {ps qs:List (Int×Int)} {ka kb:List (Key×Value)} (ha:(a == sysModules)=false) (hb:(b == sysModules)=false) (da:s.heap.DictOf (bF prog w) a ka) (db:s.heap.DictOf (bF prog w) b kb) (va:KV (ps.map fun p=>((.inl p.1:Key),V.int p.2)) ka) (vb:KV (qs.map fun p=>((.inl p.1:Key),V.int p.2)) kb) (hu:A.units < cLine) (sm:a=b→eqM ps qs=true):aH1 prog w A s (.ref a) (.ref b) (eqM ps qs):=by
  intro E Q hq
  unfold eqBool
  refine wpAny_holding ?_
  show wpAny _ _ (if (Value.ref a == Value.ref b)=true then _ else _) Q E s
  by_cases c:(Value.ref a == Value.ref b)=true
  · rw [if_pos c]
    have e:a=b:=by have:=eq_of_beq c;injection this
    rw [sm e] at hq
    exact wpAny_bind (wpAny_rule (wpAny_pure hq))
  · rw [if_neg c]
    refine wpAny_bind (show wpAny _ _ (compareOp .Eq (.ref a) (.ref b)) _ _ _ from keq_eq ha hb da db hu (fun _=>aiB vb va) ?_)
    have l1:=(agA va).1
    have l2:=(agA vb).1
    rw [l1,l2]
    exact wpAny_truthy_bool hq
section
variable {κ:Type} [DecidableEq κ] {knd:HeapKind prog w κ}
inductive a6Z (prog:Program) (w:World) (A:Around) (s:Shared) (xb:List (κ×Addr×Value)):List (κ×Addr×Value)→Bool→Prop
  | nil:a6Z prog w A s xb [] true
  | miss {k:κ} {p:Addr×Value} {r:List (κ×Addr×Value)}:atKey xb k=none→a6Z prog w A s xb ((k,p) :: r) false
  | hit {k:κ} {p q:Addr×Value} {r:List (κ×Addr×Value)} {e b:Bool}:atKey xb k=some q→aH1 prog w A s p.2 q.2 e→a6Z prog w A s xb r b→a6Z prog w A s xb ((k,p) :: r) (e&&b)
theorem a6Z.inv {xb:List (κ×Addr×Value)} {k:κ} {p:Addr×Value} {r:List (κ×Addr×Value)} {b:Bool} (h:a6Z prog w A s xb ((k,p) :: r) b) :
    (atKey xb k=none∧b=false)∨∃ q e b',atKey xb k=some q∧aH1 prog w A s p.2 q.2 e∧a6Z prog w A s xb r b'∧b=(e&&b'):=by
  cases h with
  | miss z=>exact .inl ⟨z,rfl⟩
  | hit z y x=>exact .inr ⟨_,_,_,z,y,x,rfl⟩
theorem arX {nm:String} {a b:Addr} {xa xb:List (κ×Addr×Value)} {r:Bool} {Q:Bool→Shared→Prop} (na:(a == sysModules)=false) (nb:(b == sysModules)=false) (da:s.heap.DictOfH knd a xa) (db:s.heap.DictOfH knd b xb) (hu:knd.room A)
    (hits:xa.length=xb.length→a6Z prog w A s xb xa r) (h:Q (xa.length == xb.length&&r) s):wpAny (model prog w) A (Builtin.Dict.samePairs nm a b) Q E s:=by
  obtain ⟨o1,es,ep,g1,_,g3,g4,g5,g6⟩:=da
  obtain ⟨o2,fs,fp,f1,_,f3,f4,f5,f6⟩:=db
  have la:xa.length=es.size:=(size_of_entries g4).symm
  have lb:xb.length=fs.size:=(size_of_entries f4).symm
  rw [la,lb] at h
  unfold Builtin.Dict.samePairs Builtin.Dict.showsAll
  rw [if_neg (by rw [na];decide),if_neg (by rw [nb];decide)]
  refine wpAny_bind (wpAny_pure (wpAny_bind (wpAny_pure (wpAny_bind (wpAny_dictEntries g1 g3 ?_)))))
  dsimp only
  refine wpAny_bind (wpAny_dictEntries f1 f3 ?_)
  by_cases sz:es.size=fs.size
  case neg =>
    rw [if_pos (by simpa using sz)]
    rw [show (es.size == fs.size)=false by simpa using sz,Bool.false_and] at h
    exact wpAny_bind (wpAny_rule (wpAny_pure h))
  case pos =>
    have hr:Q r s:=by simpa [sz] using h
    have ht:=hits (by rw [la,lb];exact sz)
    rw [if_neg (by rw [sz];simp)]
    refine wpAny_bind (wpAny_dictEpoch g1 g3 (wpAny_bind ?_));rw [Std.Legacy.Range.forIn_eq_forIn_range']
    simp only [Std.Legacy.Range.size,Nat.sub_zero,Nat.add_sub_cancel,Nat.div_one]
    refine wpAny_forIn_list _ (fun rest q s'=>s'=s∧q=(none,())∧∃ i,rest=List.range' i (es.size - i)∧i≤es.size∧a6Z prog w A s xb (xa.drop i) r) _ ?_ ?_ _ _ ⟨rfl,rfl,0,by simp,Nat.zero_le _,ht⟩
    · rintro x rest q s' ⟨rfl,rfl,i,e1,i1,pre⟩
      have lt:i < es.size:=by
        rcases Nat.lt_or_ge i es.size with z | z
        · exact z
        · rw [Nat.sub_eq_zero_of_le z] at e1;simp at e1
      obtain ⟨rfl,e2⟩:x=i∧rest=List.range' (i+1) (es.size - (i+1)):=by
        rw [show es.size - i=(es.size - (i+1))+1 by omega,List.range'_succ] at e1
        injection e1 with z1 z2
        exact ⟨z1,z2⟩
      refine wpAny_bind (wpAny_dictEntries g1 g3 ?_)
      have lx:x < xa.length:=by rw [la];exact lt
      have en:es[x]?=some (entryOfKey knd xa[x]):=by rw [entry_at g4 x,List.getElem?_eq_getElem lx];rfl
      rw [en]
      obtain ⟨k,p,kp⟩:∃ k p,xa[x]=(k,p):=⟨_,_,rfl⟩
      have dr:xa.drop x=(k,p) :: xa.drop (x+1):=by rw [← kp];exact List.drop_eq_getElem_cons lx
      have hk:knd.is s'.heap k p.1:=by have:=g5 xa[x] (List.getElem_mem lx);rw [kp] at this;exact this
      rw [dr] at pre
      rw [kp]
      show wpAny _ _ (holding [Value.ref p.1,p.2] _ >>= _) _ _ _
      refine wpAny_bind (wpAny_holding (wpAny_bind ?_))
      refine wpAny_dictFind_heap hu hk f1 f3 f4 f5 f6 (fun no=>?_) fun j q2 hj=>?_
      · have z:=atKey_none_of_get no
        rcases pre.inv with ⟨_,er⟩ | ⟨_,_,_,hy,_⟩
        · rw [er] at hr
          refine wpAny_pure ?_
          show wpAny _ _ (if (!false)=true then _ else _) _ _ _
          rw [if_pos (by decide)]
          exact wpAny_pure (wpAny_pure hr)
        · rw [z] at hy;cases hy
      · have z:=atKey_of_get f6 hj
        refine wpAny_bind (wpAny_dictEntries f1 f3 ?_)
        rw [entry_at f4 j,hj]
        rcases pre.inv with ⟨hn,_⟩ | ⟨q3,e,b',hy,he,hrr,er⟩
        · rw [z] at hn;cases hn
        · rw [z] at hy
          cases hy
          refine wpAny_holding (he _ _ ?_)
          cases e with
          | false =>
            rw [er,Bool.false_and] at hr
            show wpAny _ _ (if (!false)=true then _ else _) _ _ _
            rw [if_pos (by decide)]
            exact wpAny_pure (wpAny_pure hr)
          | true =>
            rw [Bool.true_and] at er
            rw [← er] at hrr
            show wpAny _ _ (if (!true)=true then _ else _) _ _ _
            rw [if_neg (by decide)]
            refine wpAny_bind (wpAny_dictEpoch g1 g3 ?_)
            rw [if_neg (by simp)]
            exact wpAny_pure ⟨rfl,rfl,x+1,e2,lt,hrr⟩
    · rintro q s' ⟨rfl,rfl,i,e1,i1,pre⟩
      have en:i=es.size:=by
        rcases Nat.lt_or_ge i es.size with z | z
        · rw [show es.size - i=(es.size - (i+1))+1 by omega,List.range'_succ] at e1;cases e1
        · exact Nat.le_antisymm i1 z
      refine wpAny_pure ?_
      rw [en,← la,List.drop_length] at pre
      cases pre
      exact hr
theorem lN {d:Addr} {xs:List (κ×Addr×Value)} (h:s.heap.DictOfH knd d xs):s.TypeIs (.ref d) "dict" := let ⟨o,_,_,h1,h2,_⟩:=h;⟨o,h1,h2.1⟩
theorem aOK {a b:Addr} {xa xb:List (κ×Addr×Value)} {r:Bool} {Q:Value→Shared→Prop} (na:(a == sysModules)=false) (nb:(b == sysModules)=false) (da:s.heap.DictOfH knd a xa) (db:s.heap.DictOfH knd b xb) (hu:A.units < cLine) (hr:knd.room A.in1)
    (hits:xa.length=xb.length→a6Z prog w A.in1 s xb xa r) (h:Q (.bool (xa.length == xb.length&&r)) s):wpAny (model prog w) A (compareOp .Eq (.ref a) (.ref b)) Q E s:=by
  refine wpAny_richCompare_same_room (op := .Eq) (lN da) (lN db) PySem.F.slot_dict_eq (wpAny_call_entry PySem.F.slot_dict_eq (lN da) PySem.F.entry_dict_eq ?_ (PySem.F.args_dict_eq_2 _ _)) hu
  show wpAny _ _ (Builtin.Dict.dictSlotArgs "__eq__" ⟨[.ref a,.ref b],[]⟩ >>= _) _ _ s;refine wpAny_bind ?_;unfold Builtin.Dict.dictSlotArgs
  refine wpAny_bind (wpAny_notOrdered_dict (lN da) ?_);show wpAny _ _ (pure (Value.ref a,Value.ref b)) _ _ s
  refine wpAny_pure (wpAny_bind (wpAny_isInstance (T := "dict") (lN db) PySem.F.sub_dict_dict ?_));simp only [Bool.not_true,Bool.false_eq_true,if_false]
  refine wpAny_bind (wpAny_pure (wpAny_bind (wpAny_pure (wpAny_bind (arX na nb da db hr hits (wpAny_pure ⟨_,rfl,(fun x=>nomatch x),?_⟩))))))
  simpa using h
theorem tup_ne {a b:Addr} {xa xb:List (κ×Addr×Value)} {r:Bool} {Q:Value→Shared→Prop} (na:(a == sysModules)=false) (nb:(b == sysModules)=false) (da:s.heap.DictOfH knd a xa) (db:s.heap.DictOfH knd b xb) (hu:A.units < cLine) (hr:knd.room A.in1)
    (hits:xa.length=xb.length→a6Z prog w A.in1 s xb xa r) (h:Q (.bool (!(xa.length == xb.length&&r))) s):wpAny (model prog w) A (compareOp .NotEq (.ref a) (.ref b)) Q E s:=by
  refine wpAny_richCompare_same_room (op := .NotEq) (lN da) (lN db) PySem.F.slot_dict_ne (wpAny_call_entry PySem.F.slot_dict_ne (lN da) PySem.F.entry_dict_ne ?_ (PySem.F.args_dict_ne_2 _ _)) hu
  show wpAny _ _ (Builtin.Dict.dictSlotArgs "__ne__" ⟨[.ref a,.ref b],[]⟩ >>= _) _ _ s;refine wpAny_bind ?_;unfold Builtin.Dict.dictSlotArgs
  refine wpAny_bind (wpAny_notOrdered_dict (lN da) ?_);show wpAny _ _ (pure (Value.ref a,Value.ref b)) _ _ s
  refine wpAny_pure (wpAny_bind (wpAny_isInstance (T := "dict") (lN db) PySem.F.sub_dict_dict ?_));simp only [Bool.not_true,Bool.false_eq_true,if_false]
  refine wpAny_bind (wpAny_pure (wpAny_bind (wpAny_pure (wpAny_bind (arX na nb da db hr hits (wpAny_pure ⟨_,rfl,(fun x=>nomatch x),?_⟩))))))
  simpa using h
end
end
theorem azF {ps:List (Int×Int)} (nd:(ps.map (·.1)).Nodup):∀ p∈ps,bD ps p.1=some p.2:=by
  induction ps with
  | nil=>intro p hp;cases hp
  | cons q ps ih =>
    intro p hp
    rw [List.map_cons,List.nodup_cons] at nd
    show (if q.1=p.1 then some q.2 else bD ps p.1)=_
    rcases List.mem_cons.mp hp with rfl | hp
    · rw [if_pos rfl]
    · rw [if_neg]
      · exact ih nd.2 p hp
      · intro e;exact nd.1 (by rw [e];exact List.mem_map_of_mem hp)
theorem aCG {ps:List (Int×Int)} (nd:(ps.map (·.1)).Nodup):eqM ps ps=true:=by
  unfold eqM
  rw [beq_self_eq_true,Bool.true_and,List.all_eq_true]
  intro p hp
  rw [azF nd p hp]
  exact beq_self_eq_true _
def ktD (z:List Key×Addr):DK×D:=(.inr z.1,.ref z.2)
def eqT (c:Addr→List (Int×Int)) (M N:List (List Key×Addr)):Bool:=M.length == N.length&&M.all fun z=>match bD N z.1 with
  | some y=>eqM (c z.2) (c y)
  | none=>false
theorem aCH {K:Fg} {H:Hp}:∀ {M:List (List Key×Addr)} {ys:List (List Key×V)},a5D K H .inr (M.map ktD) ys→ys=M.map fun z=>(z.1,.ref z.2)
  | [],_,.nil=>rfl
  | z :: M,y :: ys,.cons h r=>by
    obtain ⟨k,v⟩:=y
    obtain ⟨h1,h2⟩:=h
    have e1:z.1=k:=by
      have:(Sum.inr z.1:DK) = .inr k:=h1
      exact w5 _ _ this
    cases h2
    rw [aCH r,← e1]
    rfl
theorem kt_len {H:Hp}:∀ {M:List (List Key×Addr)} {xs:List (List Key×Addr×Value)},KT H (M.map fun z=>(z.1,V.ref z.2)) xs→xs.length=M.length
  | [],_,.nil=>rfl
  | _ :: _,_ :: _,.cons _ r=>by rw [List.length_cons,List.length_cons,kt_len r]
theorem kt_at {H:Hp} {k:List Key}:∀ {M:List (List Key×Addr)} {xs:List (List Key×Addr×Value)},KT H (M.map fun z=>(z.1,V.ref z.2)) xs→(match bD M k with
    | some y=>∃ b,atKey xs k=some (b,Value.ref y)
    | none=>atKey xs k=none)
  | [],_,.nil=>rfl
  | z :: M,x :: xs,.cons h r=>by
    obtain ⟨k2,b,u⟩:=x
    obtain ⟨h1,_,h3⟩:=h
    cases h1
    obtain rfl:u=Value.ref z.2:=h3
    have ih:=kt_at (k:=k) r
    unfold bD
    by_cases c:z.1=k
    · rw [if_pos c]
      exact ⟨b,by simp [atKey,c]⟩
    · rw [if_neg c]
      have e:atKey ((z.1,b,Value.ref z.2) :: xs) k=atKey xs k:=by simp [atKey,List.find?_cons,c]
      rw [e]
      exact ih
theorem axC {prog:Program} {w:World} {A:Around} {s:Shared} {H:Hp} {c:Addr→List (Int×Int)} {N:List (List Key×Addr)} {xb:List (List Key×Addr×Value)} (hb:KT H (N.map fun z=>(z.1,V.ref z.2)) xb)  :
    ∀ {M:List (List Key×Addr)} {xa:List (List Key×Addr×Value)},KT H (M.map fun z=>(z.1,V.ref z.2)) xa→(∀ z∈M,∀ y,bD N z.1=some y→aH1 prog w A s (.ref z.2) (.ref y) (eqM (c z.2) (c y)))→a6Z prog w A s xb xa (M.all fun z=>match bD N z.1 with
      | some y=>eqM (c z.2) (c y)
      | none=>false)
  | [],_,.nil,_ => .nil
  | z :: M,x :: xa,.cons h r,he=>by
    obtain ⟨k2,b,u⟩:=x
    obtain ⟨h1,_,h3⟩:=h
    cases h1
    obtain rfl:u=Value.ref z.2:=h3
    have ih:=axC hb r fun z hz=>he z (List.mem_cons_of_mem _ hz)
    have at1:=kt_at (k:=z.1) hb
    have e0:=he z (List.mem_cons_self ..)
    rw [List.all_cons]
    cases e:bD N z.1 with
    | none=>rw [e] at at1;exact .miss at1
    | some y =>
      rw [e] at at1
      obtain ⟨b2,at2⟩:=at1
      exact .hit at2 (e0 y e) ih
theorem arY {M:List (List Key×Addr)} {k:List Key} {y:Addr} (h:bD M k=some y):(k,y)∈M:=by
  induction M with
  | nil=>cases h
  | cons z M ih =>
    unfold bD at h
    by_cases c:z.1=k
    · rw [if_pos c] at h
      cases h
      rw [← c]
      exact List.mem_cons_self ..
    · rw [if_neg c] at h
      exact List.mem_cons_of_mem _ (ih h)
section
variable {X:Cx}
theorem axD {pins:List (Addr×Obj)} {σ:St} {H:Hp} {s:Shared} (I:Inv X pins σ H s) {G:Gp} (g:HR X.K H G) {a:Addr} {ps:List (Int×Int)} (e:G a=some (.dU false (ps.map kpD))):(a == sysModules)=false∧(ps.map (·.1)).Nodup∧∃ ka,KV (ps.map fun p=>((.inl p.1:Key),V.int p.2)) ka∧s.heap.DictOf (bF X.prog X.w) a ka:=by
  rcases g a _ e with ⟨_,ys,e1,tw⟩ | ⟨z,_⟩
  · have ey:=aoT tw
    subst ey
    obtain ⟨z1,hsm,vs,kv,hd⟩:=ag7 I.hok e1
    refine ⟨hsm,?_,vs,kv,hd⟩
    have l2:=(agA kv).2.1
    obtain ⟨o,es,ep,q1,q2,q3,q4,q5,q6⟩:=hd
    rw [l2] at q6
    exact List.pairwise_map.mpr ((List.pairwise_map.mp q6).imp fun h z=>h (by rw [z]))
  · cases z
theorem axE {pins:List (Addr×Obj)} {σ:St} {H:Hp} {s:Shared} (I:Inv X pins σ H s) {G:Gp} (g:HR X.K H G) {a:Addr} {M:List (List Key×Addr)} (e:G a=some (.dU true (M.map ktD))):(a == sysModules)=false∧∃ xa,KT H (M.map fun z=>(z.1,V.ref z.2)) xa∧s.heap.DictOfH (tupleKind (bF X.prog X.w)) a xa:=by
  rcases g a _ e with ⟨z,_⟩ | ⟨_,ys,e1,tw⟩
  · cases z
  · have ey:=aCH tw
    subst ey
    obtain ⟨z1,hsm,xs,kt,hd⟩:=amJ I.hok e1
    exact ⟨hsm,xs,kt,hd⟩
def aj9 (neg:Bool):R3:=fun x y G R =>
  (∃ a b,∃ ps qs:List (Int×Int),x = .ref a∧y = .ref b∧G a=some (.dU false (ps.map kpD))∧G b=some (.dU false (qs.map kpD))∧R (.bl (neg ^^ eqM ps qs)) G) ∨
  ∃ a b,∃ M N:List (List Key×Addr),∃ c:Addr→List (Int×Int),x = .ref a∧y = .ref b∧G a=some (.dU true (M.map ktD))∧G b=some (.dU true (N.map ktD))∧(∀ z∈M++N,G z.2=some (.dU false ((c z.2).map kpD)))∧R (.bl (neg ^^ eqT c M N)) G
theorem aU6 (hu:X.A.units+64 < cLine) {neg:Bool}:yV X (compareOp (if neg then .NotEq else .Eq)) (aj9 neg):=aiT fun pins s σ H x y vx vy u v G R Q I rx ry ru rv g q k=>by
  have in1:X.A.in1.units=X.A.units+1:=rfl
  rcases q with ⟨a,b,ps,qs,rfl,rfl,e1,e2,q⟩ | ⟨a,b,M,N,c,rfl,rfl,e1,e2,hc,q⟩
  · cases rx;cases ry
    obtain rfl:u=Value.ref a:=ru
    obtain rfl:v=Value.ref b:=rv
    obtain ⟨n1,_,ka,va,da⟩:=axD I g e1
    obtain ⟨n2,_,kb,vb,db⟩:=axD I g e2
    have l1:=(agA va).1
    have l2:=(agA vb).1
    have fin:∀ bb:Bool,bb=(neg ^^ eqM ps qs)→EP X pins σ Q (.bool bb) s:=fun bb eb=>⟨.bl bb,H,I,rfl,k _ H (.bl bb) G (.refl H) (.bl _) g (by rw [eb];exact q)⟩
    cases neg with
    | false=>exact keq_eq n1 n2 da db (by omega) (fun _=>aiB vb va) (fin _ (by rw [l1,l2];simp [eqM]))
    | true=>exact keq_ne n1 n2 da db (by omega) (fun _=>aiB vb va) (fin _ (by rw [l1,l2];simp [eqM]))
  · cases rx;cases ry
    obtain rfl:u=Value.ref a:=ru
    obtain rfl:v=Value.ref b:=rv
    obtain ⟨n1,xa,va,da⟩:=axE I g e1
    obtain ⟨n2,xb,vb,db⟩:=axE I g e2
    have l1:=kt_len va
    have l2:=kt_len vb
    have fin:∀ bb:Bool,bb=(neg ^^ eqT c M N)→EP X pins σ Q (.bool bb) s:=fun bb eb=>⟨.bl bb,H,I,rfl,k _ H (.bl bb) G (.refl H) (.bl _) g (by rw [eb];exact q)⟩
    have hits:=axC (prog:=X.prog) (w:=X.w) (A:=X.A.in1) (s:=s) (c:=c) vb va fun z hz y hy=>by
      obtain ⟨m1,nd1,k1,w1,d1⟩:=axD I g (hc z (List.mem_append_left _ hz))
      obtain ⟨m2,nd2,k2,w2,d2⟩:=axD I g (hc _ (List.mem_append_right _ (arY hy)))
      exact aH2 m1 m2 d1 d2 w1 w2 (by omega) fun e=>by rw [e];exact aCG nd2
    cases neg with
    | false=>exact aOK n1 n2 da db (by omega) (show X.A.in1.units < cLine by omega) (fun _=>hits) (fin _ (by rw [l1,l2];simp [eqT]))
    | true=>exact tup_ne n1 n2 da db (by omega) (show X.A.in1.units < cLine by omega) (fun _=>hits) (fin _ (by rw [l1,l2];simp [eqT]))
end
end L2
namespace L2
open PySem PySem.Spec PyProof.Rows PySem.W
section
variable {X:Cx} {A:Around} {E:Value→Shared→Prop}
theorem azG {pins:List (Addr×Obj)} {σ:St} {H H':Hp} {s:Shared} {a:Addr} {y v:V} {u r:Value} {Q:Unit→Shared→Prop} (hu:A.units < cLine) (I:Inv X pins σ H s) (g:aqT H a y v H') (ry:RelV y u) (rv:RelV v r) (h:∀ s',Inv X pins σ H' s'→Q () s'):wpAny (model X.prog X.w) A (dictSet a u r) Q E s:=by
  rcases g with ⟨kvs,k,e,ey,l,eH⟩ | ⟨kvs,k,b,e,ey,eb,l,eH⟩
  · subst ey eH
    obtain ⟨z,hd,vs,rel,dd⟩:=ag7 I.hok e
    have lp:=wM kvs k v
    refine wpAny_dictSet_pairs (hsz:=by rw [← rel.length];exact z) (aaX ry) dd fun h' d2 hs=>h _ (a0Z I (by rw [e];exact True.intro) hs (let ⟨q,_,_,hq,_⟩:=d2;⟨q,hq⟩) (ao1 (by omega) hd (rel.put k rv) d2))
  · subst ey eH
    cases (show u=Value.ref b from ry)
    obtain ⟨z,hd,xs,rel,dd⟩:=amJ I.hok e
    have lp:=wM kvs k v
    refine wpAny_dictSet_heap (hsz:=by rw [← Paired.length rel];exact z) (show A.units < cLine from hu) (a4Y I.hok eb) dd fun h' d2 hs=>h _ ?_
    obtain ⟨q,es,ep,hq,h2,h3,h4,_,h5⟩:=d2
    refine a0Z I (by rw [e];exact True.intro) hs ⟨q,hq⟩ ⟨by omega,hd,_,(rel.put k eb rv).keeps fun c ys ec=>?_,q,es,ep,hq,h2,h3,h4,h5⟩
    rw [dF (awJ ec e (fun z=>nomatch z))]
    exact ec
def ajA (t:Bool) (tk tv:dX):dX:=fun ρ G R=>∀ p,G p=none→tk ρ (aQ G p (.dU t [])) fun y G1=>tv ρ G1 fun v G2=>uL (.ref p) y G2 fun a t' kvs k=>kvs.length < sizeLine∧R (.ref p) (aQ G2 a (.dU t' (oN kvs k v)))
theorem aH3 {k v:Expr} {tk tv:dX} {t:Bool} {pos:Pos} (hu:X.A.units+64 < cLine) (hk:gG X k tk) (hv:gG X v tv):gG X (.Dict [some k] [v] pos) (ajA t tk tv):=by
  intro pins s σ H Q I h
  obtain ⟨ρ,G,R,sr,g,q,kk⟩:=h
  refine wpAny_Dict_any rfl rfl (by simp) (by simp) ?_
  let p:=s.heap.objs.size
  have fr:H p=none:=I.hok.fresh (Nat.le_refl _)
  obtain ⟨H0,I0,sn,g0,fG⟩:∃ H0,Inv X pins σ H0 { s with heap:=s.heap.push { cls := .type "dict",data := .dict #[] },toks:=s.toks }∧Same H H0∧HR X.K H0 (aQ G p (.dU t []))∧G p=none:=by
    cases t with
    | false =>
      have sn:Same H (upd H p (.dK [])):=cU fr
      have J:=I.laid (a:=p) (o := .dK []) (t':=s.toks) (fun _ _ q=>Heap.get?_push_of_some _ q) (Nat.le_refl _) (aqW s.heap I.big)
      exact ⟨upd H p (.dK []),J,sn,g.put (u := .dU false []) fr (.inl ⟨rfl,[],aV,.nil⟩),tH g fr (a6X J)⟩
    | true =>
      have sn:Same H (upd H p (.dT [])):=cU fr
      have J:=I.laid (a:=p) (o := .dT []) (t':=s.toks) (fun _ _ q=>Heap.get?_push_of_some _ q) (Nat.le_refl _) (aqX s.heap I.big)
      exact ⟨upd H p (.dT []),J,sn,g.put (u := .dU true []) fr (.inr ⟨rfl,[],aV,.nil⟩),tH g fr (a6X J)⟩
  have t0:Ts H H0 := .same sn
  refine pairTrees_cons_walk (kY (hk pins _ σ H0 (fun vy H1=>Ts H0 H1∧∃ y G1,RD X.K H1 y vy∧HR X.K H1 G1∧tv ρ G1 fun v G2=>uL (.ref p) y G2 fun a t' kvs k=>kvs.length < sizeLine∧R (.ref p) (aQ G2 a (.dU t' (oN kvs k v)))) I0 ⟨ρ,_,_,sr.mono t0,g0,q p fG,fun vy H1 y G1 t1 r1 g1 q1=>⟨t1,y,G1,r1,g1,q1⟩⟩) fun uy s1 ⟨vy,H1,I1,ry,t1,y,G1,rdy,g1,q1⟩=>?_)
  refine kY (hv pins s1 σ H1 (fun vv H2=>Ts H1 H2∧∃ d G2,RD X.K H2 d vv∧HR X.K H2 G2∧uL (.ref p) y G2 fun a t' kvs k=>kvs.length < sizeLine∧R (.ref p) (aQ G2 a (.dU t' (oN kvs k d)))) I1 ⟨ρ,G1,_,sr.mono (t0.trans t1),g1,q1,fun vv H2 d G2 t2 r2 g2 q2=>⟨t2,d,G2,r2,g2,q2⟩⟩) fun uv s2 ⟨vv,H2,I2,rv,t2,d,G2,rdv,g2,q2⟩=>?_
  refine pairTrees_nil_walk ?_
  obtain ⟨a,kvs,kd,ea,_,e1,_,⟨hl,q3⟩,dd⟩:=wN (.ref p) (rdy.mono t2) g2 q2
  cases ea
  obtain ⟨H4,pp,tt,g4⟩:=dd.put g2 rdv hl
  unfold storeAll
  rw [List.forIn_cons]
  refine wpAny_bind (wpAny_bind (azG (by omega) I2 pp ry rv fun s3 I3=>wpAny_pure ?_))
  dsimp only
  rw [List.forIn_nil]
  exact wpAny_pure ⟨.ref p,H4,I3,rfl,kk _ H4 _ _ (((t0.trans t1).trans t2).trans tt) (.ref p) g4 q3⟩
def a3P:RM3:=fun x xs G R=>match x,xs with
  | .ref q,[.bl b]=>(match bZ G q with
    | some ds=>ds.all az8=true∧∃ j:Nat,ds[j]?=some (.bl b)∧(∀ m,m < j→ds[m]?≠some (.bl b))∧R (.int j) G
    | none=>False)
  | _,_=>False
theorem arZ:ahK X "list.index" a3P:=fun pins s σ H x xs vx vs u us G R Q I rx rs ru rv g q k=>by
  have big:sizeLine < 2 ^ 62:=by decide
  unfold a3P at q
  split at q
  · rename_i a b
    split at q
    · rename_i ds e1
      obtain ⟨ab,j,h1,h2,q⟩:=q
      cases rx
      obtain rfl:u=Value.ref a:=ru
      cases rs with
      | cons r1 rr =>
      cases rr
      cases r1
      obtain ⟨u2,rfl,ru2⟩:=vals1 rv
      obtain rfl:u2=Value.bool b:=ru2
      obtain ⟨ws,hq,r1⟩:=gW g e1
      obtain ⟨its,rv',pl,hz⟩:=I.list hq
      have len:its.length=ds.length:=by rw [← rv'.length,← r1.length]
      have lw:ds.length=ws.length:=r1.length
      have jl:j < ds.length:=(List.getElem?_eq_some_iff.mp h1).1
      have at1:∀ m (hm:m < its.toArray.size),its.toArray[m]=Value.bool (trN ds m):=fun m hm=>azA r1 rv' ab (i:=m) (by rw [List.getElem?_eq_getElem (by simpa using hm)];simp)
      have tr:∀ m,m < ds.length→(trN ds m=b↔ds[m]?=some (.bl b)):=fun m hm=>by
        have hb:az8 ds[m]=true:=List.all_eq_true.mp ab _ (List.getElem_mem hm)
        unfold trN
        rw [List.getElem?_eq_getElem hm]
        cases z:ds[m] with
        | bl c=>simp [az9]
        | _=>rw [z] at hb;cases hb
      obtain ⟨o,n,p1,p2,p3,p4⟩:=pl
      have hT:s.TypeIs (.ref a) "list" := ⟨o,p1,p2⟩
      have hobj:s.heap.get? a=some { cls := .type "list",dict:=o.dict,data := .seq its.toArray n,slots:=o.slots }:=by rw [p1];cases o;simp_all
      refine call_meets PySem.F.slot_list_index hT PySem.F.entry_list_index (PySem.F.args_list_index_2 _ _) (SeqAt.list_indexAt a its.toArray n o.dict o.slots (.bool b) (fun v=>match v with | .bool c=>PyData.eqv (.bool c) (.bool b) | _=>false) j (by simpa [len] using jl) (by omega) ?_ ?_) ⟨hobj,?_,⟨.int j,H,I.tok _,⟨_,rfl⟩,k _ H _ G (.refl H) (.int _) g q⟩⟩
      · rw [at1 j (by simpa [len] using jl),(tr j jl).mpr h1]
        cases b <;> rfl
      · intro m hm hlt
        have hm2:m < ds.length:=by rw [← len];simpa using hm
        rw [at1 m hm]
        have ne:trN ds m≠b:=fun z=>h2 m hlt ((tr m hm2).mp z)
        cases c:trN ds m <;> cases b <;> first | rfl | exact absurd c ne
      · intro y hy
        obtain ⟨m,hm,rfl⟩:=Array.mem_iff_getElem.mp hy
        rw [at1 m hm]
        exact keq_flat (PyProof.V.Flat.bool _) (PyProof.V.Flat.bool _)
    · exact q.elim
  · exact q.elim
end
end L2
namespace L4
open PySem PySem.Spec PyProof.Rows L2
inductive BF where
  | len | isi | min | sum | an2 | aCI | as3 | as4
  deriving DecidableEq
inductive MK where
  | append | pop | af3
  deriving DecidableEq
inductive DM where
  | sdf | pop
  deriving DecidableEq
inductive GT where
  | con (d:D) | cls (a:Addr) | fn (sp:zL) (n:Nat) (qt:Bool) | bf (b:BF) | bt (n:String) | kl (C:Addr) (sp:zL) (dd:List D) | me (C:Addr) (m:Str) (sp:zL) (dd:List D) | fl (C:Addr) (f:Str)
structure SI where
  N:List Str
  fl:List Bool
  lc:List Bool
  ce:List Bool
  gl:List (Str×GT)
  gv:List Bool
  calm:Bool
mutual
inductive CE where
  | var (i:Nat) | con (d:D) | glo (k:Nat) | neg (a:CE) | aCJ (a:CE) | bin (o:Operator) (a b:CE) | cmp (o:CmpOp) (a b:CE) | chain (o o':CmpOp) (a b c:CE)
  | ajB (es:CEs) | tup (es:CEs) | lst (es:CEs) | dct | ix (a b:CE) | call (k:Nat) (es:CEs) | meth (m:MK) (o:CE) (es:CEs)
  | comp (fl gv:List Bool) (ci:CI) (cc:CC) (e:CE) | fld (k:Nat) (o:CE) | uM (k:Nat) (o:CE) (es:CEs) | dix (a b:CE) | din (neg:Bool) (a b:CE) | dgt (o e f:CE) | azH | dm (m:DM) (o e:CE) (es:CEs) | sortI (k:Nat) (o:CE) | aH4 (k:Nat) (o:CE) | deq (neg:Bool) (a b:CE) | aCK (t:Bool) (a b:CE)
inductive CEs where
  | nil | cons (e:CE) (r:CEs)
inductive CT where
  | cmp (o:CmpOp) (a b:CE) | chain (o o':CmpOp) (a b c:CE) | not (t:CT) | or (ts:CTs) | val (e:CE) | din (neg:Bool) (a b:CE) | deq (neg:Bool) (a b:CE)
inductive CTs where
  | nil | cons (t:CT) (r:CTs)
inductive CO where
  | none | some (e:CE)
inductive CI where
  | any (e:CE) | aCL (e:CE)
inductive CC where
  | none | some (t:CT)
end
abbrev SI.cmp (S:SI) (xs:List Str) (fl gv:List Bool):SI:=⟨xs++S.N,xs.map (fun _=>true)++fl,xs.map (fun _=>true)++S.N.map (fun _=>false),xs.map (fun _=>false)++fl,S.gl,gv,S.calm⟩
def av9:dX:=fun _ _ _=>False
def aKO:TT3:=fun _ _ _=>False
def NoX:aY→bM:=fun _ _ _=>False
def aKP:Operator→R3
  | .Add=>nU
  | .Sub=>amN
  | .Mult=>acS
  | .FloorDiv=>tM
  | .Mod=>m6
  | .Pow=>acT
  | _=>fun _ _ _ _=>False
def ajC:CmpOp→R3
  | .Eq=>a5B
  | .NotEq=>aeT
  | .Lt=>aB7
  | .LtE=>ayY
  | .Gt=>ayX
  | .GtE=>aMU
  | .Is=>az0
  | .IsNot=>aeQ
  | .In=>aNH
  | .NotIn=>aoH
def aZX:Bool→R3
  | true=>aKD
  | false=>aKC
def aU7 (K:Fg):BF→List D→Gp→oK→Prop
  | .len=>a83
  | .isi=>aF K
  | .min=>aj1
  | .sum=>aKB
  | .an2=>aoP
  | .aCI=>af0
  | .as3=>z6
  | .as4=>a5F
def aOM (n:String):List D→Gp→oK→Prop:=if n = "int" then amT else if n = "list" then av0 else if n = "str" then aKJ else if n = "tuple" then ax7 else fun _ _ _=>False
def dmN:DM→Str
  | .sdf => "setdefault"
  | .pop => "pop"
def dmR:DM→RM3
  | .sdf=>aj7
  | .pop=>aeZ
def mkT:MK→String
  | .append => "list"
  | .pop => "list"
  | .af3 => "list"
def mkR:MK→RM3
  | .append=>arC
  | .pop=>aKE
  | .af3=>a3P
def mkN:MK→Str
  | .append => "append"
  | .pop => "pop"
  | .af3 => "index"
def aON (T:List (Str×GT)) (k:Nat):dX:=match T[k]? with
  | some (_,.con d)=>bY d
  | some (_,.cls a)=>bY (.ref a)
  | some (_,.bt n)=>bY (.ty n)
  | _=>av9
def aOO (T:List (Str×GT)) (K:Fg) (ex:aY→bM) (k:Nat) (t:zQ):dX:=match T[k]? with
  | some (_,.fn sp _ _)=>aU sp ex t
  | some (_,.cls a)=>ax0 a t
  | some (_,.bf b)=>qF (aU7 K b) t
  | some (_,.bt n)=>qF (aOM n) t
  | some (_,.kl C sp dd)=>aeY C sp dd ex t
  | _=>av9
def aOP (T:List (Str×GT)) (k:Nat) (t:dX):dX:=match T[k]? with
  | some (_,.fl C f)=>uK C t f
  | _=>av9
def aOQ (T:List (Str×GT)) (ex:aY→bM) (k:Nat) (to:dX) (t:zQ):dX:=match T[k]? with
  | some (_,.me C m sp dd)=>nA C m sp dd ex to t
  | _=>av9
def aOR:Bool→R3
  | true=>aC9
  | false=>arQ
mutual
def mE (T:List (Str×GT)) (K:Fg) (ex:aY→bM):CE→dX
  | .var i=>aC i
  | .con d=>bY d
  | .glo k=>aON T k
  | .neg a=>awV (mE T K ex a)
  | .aCJ a=>aiQ (mE T K ex a)
  | .bin o a b=>aN (aKP o) (mE T K ex a) (mE T K ex b)
  | .cmp o a b=>aN (ajC o) (mE T K ex a) (mE T K ex b)
  | .chain o o' a b c=>a1A (ajC o) (ajC o') (mE T K ex a) (mE T K ex b) (mE T K ex c)
  | .ajB es=>aOS T K ex es
  | .tup es=>a6Y (mA T K ex es)
  | .lst es=>yH (mA T K ex es)
  | .dct=>abR
  | .ix a b=>aN tO (mE T K ex a) (mE T K ex b)
  | .call k es=>aOO T K ex k (mA T K ex es)
  | .meth m o .nil=>aG5 (mkT m) (mkR m) (mE T K ex o)
  | .meth m o (.cons e r)=>tM3 (mkT m) (mkR m) (mE T K ex o) (aA (mE T K ex e) (mA T K ex r))
  | .comp _ _ ci cc e=>av5 (mI T K ex ci) (mC T K cc) (mE T K NoX e)
  | .fld k o=>aOP T k (mE T K ex o)
  | .uM k o es=>aOQ T ex k (mE T K ex o) (mA T K ex es)
  | .dix a b=>aN a5E (mE T K ex a) (mE T K ex b)
  | .din neg a b=>aN (aOR neg) (mE T K ex a) (mE T K ex b)
  | .dgt o e f=>a1B (mE T K ex o) (mE T K ex e) (mE T K ex f)
  | .azH=>aaB
  | .dm m o e es=>av6 (dmR m) (mE T K ex o) (aA (mE T K ex e) (mA T K ex es))
  | .sortI _ o=>acZ (mE T K ex o)
  | .aH4 _ o=>aoU (mE T K ex o)
  | .deq neg a b=>aN (aj9 neg) (mE T K ex a) (mE T K ex b)
  | .aCK t a b=>ajA t (mE T K ex a) (mE T K ex b)
def mA (T:List (Str×GT)) (K:Fg) (ex:aY→bM):CEs→zQ
  | .nil=>aH
  | .cons e r=>aA (mE T K ex e) (mA T K ex r)
def aOS (T:List (Str×GT)) (K:Fg) (ex:aY→bM):CEs→dX
  | .nil=>av9
  | .cons e .nil=>mE T K ex e
  | .cons e (.cons e' r)=>tL (mE T K ex e) (aOS T K ex (.cons e' r))
def mOr (T:List (Str×GT)) (K:Fg) (ex:aY→bM):CEs→dX
  | .nil=>av9
  | .cons e .nil=>mE T K ex e
  | .cons e (.cons e' r)=>awQ (mE T K ex e) (mOr T K ex (.cons e' r))
def mT (T:List (Str×GT)) (K:Fg) (ex:aY→bM):CT→TT3
  | .cmp o a b=>bJ (aN (ajC o) (mE T K ex a) (mE T K ex b))
  | .chain o o' a b c=>bJ (a1A (ajC o) (ajC o') (mE T K ex a) (mE T K ex b) (mE T K ex c))
  | .not t=>tK (mT T K ex t)
  | .or ts=>aOT T K ex ts
  | .val e=>bJ (mE T K ex e)
  | .din neg a b=>bJ (aN (aOR neg) (mE T K ex a) (mE T K ex b))
  | .deq neg a b=>bJ (aN (aj9 neg) (mE T K ex a) (mE T K ex b))
def aKQ (T:List (Str×GT)) (K:Fg) (ex:aY→bM):CTs→TT3
  | .nil=>aKO
  | .cons e .nil=>mT T K ex e
  | .cons e (.cons e' r)=>awP (mT T K ex e) (aKQ T K ex (.cons e' r))
def aOT (T:List (Str×GT)) (K:Fg) (ex:aY→bM):CTs→TT3
  | .nil=>aKO
  | .cons e .nil=>mT T K ex e
  | .cons e (.cons e' r)=>acR (mT T K ex e) (aOT T K ex (.cons e' r))
def mO (T:List (Str×GT)) (K:Fg) (ex:aY→bM):CO→TO3
  | .none=>aiR
  | .some e=>auY (mE T K ex e)
def mI (T:List (Str×GT)) (K:Fg) (ex:aY→bM):CI→TI3
  | .any e=>aiX (mE T K ex e)
  | .aCL e=>aiZ (aA (mE T K ex e) aH)
def mC (T:List (Str×GT)) (K:Fg):CC→TT3
  | .none=>aBL
  | .some t=>mT T K NoX t
end
def isStar:Expr→Bool
  | .Starred ..=>true
  | _=>false
def isSlice:Expr→Bool
  | .Slice ..=>true
  | _=>false
def eE:Expr→Bool
  | .Call (.Name id _) [] [] _=>id != ("super" : Str)
  | _=>true
def isSet:Expr→Bool
  | .Set ..=>true
  | _=>false
def aOU:BF→String
  | .len => "len"
  | .isi => "isinstance"
  | .min => "min"
  | .sum => "sum"
  | .an2 => "sorted"
  | .aCI => "len"
  | .as3 => "sorted"
  | .as4 => "dict"
def axF:BF→Value
  | .as4 => .type "dict"
  | b => .builtin (aOU b)
def avA:BF→Bool
  | .len=>true
  | .isi=>true
  | .aCI=>true
  | .an2=>true
  | _=>false
def ad0 (S:SI):Bool:=(List.range S.gl.length).any fun k=>S.gv[k]? == some true&&match S.gl[k]? with
  | some (y,.bt n)=>y == ("range" : Str)&&n == "range"
  | _=>false
def b00 (S:SI) (k:Nat) (x:Str):Bool:=match S.gl[k]? with
  | some (y,.bf b)=>y == x&&axF b == .builtin "max"
  | _=>false
def aOV (S:SI) (y:Str):Bool:=(List.range S.N.length).any fun i=>S.N[i]? == some y&&S.ce[i]? == some true
def aoV:List Str→Bool
  | []=>true
  | x :: r=>!r.contains x&&aoV r
def an3 (S:SI) (xs:List Str) (scope:Scope) (fl gv:List Bool):Bool :=
  scope.kind == .function&&scope.names.all (fun y=>y.2 != .cell&&(y.2 != .local || scope.names.lookup y.1 == some .local)&&(y.2 != .free || aOV S y.1)) &&
  xs.all (fun x=>scope.names.lookup x == some .local&&!S.N.contains x&&x != ("__debug__" : Str)&&x != ("__classdict__" : Str))&&aoV xs &&
  S.N.all (fun y=>scope.names.lookup y != some .local) &&
  (List.range S.N.length).all (fun i=>fl[i]? != some true || (S.fl[i]? == some true&&match S.N[i]? with
    | some y=>scope.names.lookup y == some .free
    | none=>false)) &&
  (List.range S.gl.length).all (fun k=>gv[k]? != some true || match S.gl[k]? with
    | some (y,_)=>scope.names.lookup y == some .globalImplicit
    | none=>false)
def aKR:D→Const→Bool
  | .int i,.int j=>i == j
  | .str s,.str t=>s == t
  | .bl b,.bool c=>b == c
  | .non,.none=>true
  | _,_=>false
def plainT:Expr→Bool
  | .UnaryOp .Not _ _=>false
  | .BoolOp ..=>false
  | .IfExp ..=>false
  | .Compare ..=>false
  | _=>true
def aCM (S:SI) (k:Nat) (x:Str):Bool:=match S.gl[k]? with
  | some (y,.con _)=>y == x
  | some (y,.cls _)=>y == x
  | some (y,.bt _)=>y == x
  | _=>false
def axG (S:SI) (k:Nat) (x:Str) (e:Bool):Bool:=match S.gl[k]? with
  | some (y,.fn _ _ qt)=>y == x&&(qt || S.calm)
  | some (y,.cls _)=>y == x
  | some (y,.bf b)=>y == x&&e&&(S.calm || avA b)
  | some (y,.bt _)=>y == x&&e
  | some (y,.kl _ _ _)=>y == x&&S.calm
  | _=>false
def azI (S:SI) (k:Nat) (x:Str):Bool:=match S.gl[k]? with
  | some (_,.fl _ f)=>f == x
  | _=>false
def aH6 (S:SI) (k:Nat) (x:Str):Bool:=match S.gl[k]? with
  | some (_,.me _ m _ _)=>m == x
  | _=>false
def azJ (S:SI) (k:Nat) (x:Str) (nm:String):Bool:=match S.gl[k]? with
  | some (y,.bf b)=>y == x&&axF b == .builtin nm
  | _=>false
def agC:Expr→Option (Expr×Str×Bool)
  | .Call (.Attribute y n ap) [] [] cp=>some (y,n,ap.endLine == cp.line)
  | _=>none
def aWC:Expr→Option (Str×Expr)
  | .Call (.Name x _) [z] [] _=>some (x,z)
  | _=>none
mutual
def kE (S:SI):CE→Expr→Bool
  | .var i,.Name x _=>S.N[i]? == some x&&S.fl[i]? == some true
  | .con d,.Constant c _ _=>aKR d c
  | .glo k,.Name x _=>S.gv[k]? == some true&&aCM S k x
  | .neg a,.UnaryOp .USub e _=>kE S a e
  | .aCJ a,.UnaryOp .Not e _=>kE S a e
  | .bin o a b,.BinOp x o' y _=>o == o'&&kE S a x&&kE S b y
  | .cmp o a b,.Compare x [o'] [y] _=>o == o'&&!behindInMarks o' y&&kE S a x&&kE S b y
  | .chain o o' a b c,.Compare x [p,p'] [y,z] _=>o == p&&o' == p'&&!lastMarks [p,p'] [y,z]&&kE S a x&&kE S b y&&kE S c z
  | .ajB es,.BoolOp .And xs _=>kEs S es xs
  | .tup es,.Tuple xs _ _=>kEs S es xs
  | .lst es,.List xs _=>kEs S es xs
  | .dct,.Dict [] [] _=>true
  | .ix a b,.Subscript x y _=>!isSlice y&&kE S a x&&kE S b y
  | .call k es,.Call (.Name x _) xs [] _=>kEs S es xs&&S.gv[k]? == some true&&axG S k x (!xs.isEmpty)
  | .meth m o es,.Call (.Attribute y n ap) xs [] cp=>n == mkN m&&eE y&&ap.endLine == cp.line&&decide (xs.length < 30)&&kE S o y&&kEs S es xs
  | .comp fl gv ci cc e,.ListComp elt [⟨.Name x _,iter,ifs,a⟩] scope _=>a == 0&&an3 S [x] scope fl gv&&!isSet iter&&kI S false ci iter&&kC (S.cmp [x] fl gv) cc ifs&&kE (S.cmp [x] fl gv) e elt
  | .fld k o,.Attribute y n _=>azI S k n&&eE y&&kE S o y
  | .uM k o es,.Call (.Attribute y n ap) xs [] cp=>aH6 S k n&&S.calm&&eE y&&ap.endLine == cp.line&&decide (xs.length < 30)&&kE S o y&&kEs S es xs
  | .dix a b,.Subscript x y _=>!isSlice y&&kE S a x&&kE S b y
  | .din neg a b,.Compare x [o'] [y] _=>o' == (if neg then CmpOp.NotIn else CmpOp.In)&&!behindInMarks o' y&&kE S a x&&kE S b y
  | .dgt o e f,.Call (.Attribute y n ap) [x,z] [] cp=>n == ("get" : Str)&&eE y&&ap.endLine == cp.line&&!isStar x&&!isStar z&&kE S o y&&kE S e x&&kE S f z
  | .azH,.Dict [] [] _=>true
  | .dm m o e es,.Call (.Attribute y n ap) (x :: xs) [] cp=>n == dmN m&&eE y&&ap.endLine == cp.line&&decide ((x :: xs).length < 30)&&kE S o y&&!isStar x&&kE S e x&&kEs S es xs
  | .sortI k o,.Call (.Name x _) [w] [] _=>S.calm&&S.gv[k]? == some true&&azJ S k x "sorted" && (match agC w with
    | some (y,n,l)=>l&&n == ("items" : Str)&&eE y&&kE S o y
    | none=>false)
  | .aH4 k o,.Call (.Name x _) [w] [] _=>S.calm&&S.gv[k]? == some true&&azJ S k x "sum" && (match agC w with
    | some (y,n,l)=>l&&n == ("values" : Str)&&eE y&&kE S o y
    | none=>false)
  | .deq neg a b,.Compare x [o'] [y] _=>o' == (if neg then CmpOp.NotEq else CmpOp.Eq)&&kE S a x&&kE S b y
  | .aCK _ a b,.Dict [some x] [y] _=>kE S a x&&kE S b y
  | _,_=>false
def kEs (S:SI):CEs→List Expr→Bool
  | .nil,[]=>true
  | .cons e r,x :: xs=>!isStar x&&kE S e x&&kEs S r xs
  | _,_=>false
def kT (S:SI):CT→Expr→Bool
  | .cmp o a b,.Compare x [o'] [y] _=>o == o'&&!behindInMarks o' y&&kE S a x&&kE S b y
  | .chain o o' a b c,.Compare x [p,p'] [y,z] _=>o == p&&o' == p'&&!lastMarks [p,p'] [y,z]&&kE S a x&&kE S b y&&kE S c z
  | .not t,.UnaryOp .Not e _=>kT S t e
  | .or ts,.BoolOp .Or xs _=>kTs S ts xs
  | .din neg a b,.Compare x [o'] [y] _=>o' == (if neg then CmpOp.NotIn else CmpOp.In)&&!behindInMarks o' y&&kE S a x&&kE S b y
  | .deq neg a b,.Compare x [o'] [y] _=>o' == (if neg then CmpOp.NotEq else CmpOp.Eq)&&kE S a x&&kE S b y
  | .val e,x=>plainT x&&kE S e x
  | _,_=>false
def kTs (S:SI):CTs→List Expr→Bool
  | .nil,[]=>true
  | .cons e r,x :: xs=>kT S e x&&kTs S r xs
  | _,_=>false
def kO (S:SI):CO→Option Expr→Bool
  | .none,none=>true
  | .some e,some x=>kE S e x
  | _,_=>false
def kI (S:SI) (tt:Bool):CI→Expr→Bool
  | .any e,x=>kE S e x
  | .aCL e,.Call (.Name r _) [y] [] _=>r == ("range" : Str)&&ad0 S&&!isStar y&&kE S e y
  | _,_=>false
def kC (S:SI):CC→List Expr→Bool
  | .none,[]=>true
  | .some t,[x]=>kT S t x
  | _,_=>false
end
end L4
namespace L4
open PySem PySem.Spec PyProof.Rows L2
theorem bQ {e:Expr} {es:List Expr} {env:Env} (h:isStar e=false):starEach (e :: es) env=(false,eval e env) :: starEach es env:=by
  cases e <;> first | rfl | (exact absurd (show true=false from h) (by decide))
theorem zT {S:SI} {env:Env} {pos:Pos}:∀ {cs:CEs} {xs:List Expr},kEs S cs xs=true→(backTo pos (starEach xs env)).any (·.1)=false
  | .nil,[],_=>rfl
  | .nil,_ :: _,h=>absurd (show false=true from h) (by decide)
  | .cons _ _,[],h=>absurd (show false=true from h) (by decide)
  | .cons e r,x :: xs,h=>by
    have h':(!isStar x&&kE S e x&&kEs S r xs)=true:=h
    simp only [Bool.and_eq_true,Bool.not_eq_true'] at h'
    rw [bQ h'.1.1]
    show (false || (backTo pos (starEach xs env)).any (·.1))=false
    rw [zT h'.2];rfl
theorem qG {o:Expr} {n:Str} {env:Env} (h:eE o=true):attributeBase o n env (eval o env)=eval o env:=by
  cases o with
  | Call f args kws pos =>
    cases f with
    | Name id p =>
      cases args with
      | nil =>
        cases kws with
        | nil =>
          have h':(id != ("super" : Str))=true:=h
          unfold attributeBase
          simp only [h',Bool.true_or,if_true]
        | cons _ _=>rfl
      | cons _ _=>cases kws <;> rfl
    | _=>rfl
  | _=>rfl
abbrev BMv:List Value:=[.type "ValueError",.type "Exception",.type "BaseException",.type "object"]
def aU9 (X:Cx) (cm:Bool) (x:Str):GT→Prop
  | .con d=>∃ u v,X.mg x=some u∧RelV v u∧∀ H,RD X.K H d v
  | .cls a=>X.mg x=some (.ref a)∧PySem.W.excIn X.K a BMv "ValueError.__new__" = true
  | .fn sp n qt=>(qt=true∨cm=true)→∃ k f fd ps,dH qt X.prog X.w X.K X.mg X.base (tQ X.prog X.w) k f fd ps (gB X.K sp)∧oO qt k X.A∧X.mg x=some (.ref f)∧PySem.W.keepIn X.K (.ref f)=true∧Binds X.K fd ps []
  | .bf b=>X.mg x=none∧bootBuiltins x=some (axF b)
  | .bt n=>X.mg x=none∧bootBuiltins x=some (.type n)
  | .kl C sp dd=>cm=true→∃ k f fd ps ds dvs,Mk X.K C f∧dH false X.prog X.w X.K X.mg X.base (tQ X.prog X.w) k f fd ps (gB X.K sp)∧oO false (k+1) X.A∧X.mg x=some (.ref C)∧Binds X.K fd ps ds∧Vals dvs ds∧∀ H,iG X.K H dd dvs
  | .me C m sp dd=>cm=true→∃ k f fd ps ds dvs,Cls X.K C∧Meth X.K C m f∧dH false X.prog X.w X.K X.mg X.base (tQ X.prog X.w) k f fd ps (gB X.K sp)∧oO false k X.A∧Binds X.K fd ps ds∧Vals dvs ds∧∀ H,iG X.K H dd dvs
  | .fl C f=>Cls X.K C∧uU X.K C f
structure zU (X:Cx) (S:SI) (ex:aY→bM):Prop where
  N:X.N=S.N
  nd:X.N.Nodup
  vis:∀ (i:Nat) (x:Str),S.N[i]?=some x→S.fl[i]?=some true→Vis X.env.scope x∧(x == ("__debug__" : Str))=false∧(x == ("__classdict__" : Str))=false
  ce:∀ (i:Nat) (x:Str),S.N[i]?=some x→S.ce[i]?=some true→X.env.kindOf x=some .cell∨X.env.kindOf x=some .free
  gm:∀ (k:Nat) (x:Str) (g:GT),S.gl[k]?=some (x,g)→(S.gv[k]?=some true→Gl X x)∧(x == ("__debug__" : Str))=false∧x ≠ "__name__" ∧ aU9 X S.calm x g
  hu:X.A.units+64 < cLine
  cm:S.calm=true→X.calm=true
  cat:Cat X ex
theorem zU.gl {X:Cx} {S:SI} {ex:aY→bM} (Q:zU X S ex) (k:Nat) (x:Str) (g:GT) (h:S.gl[k]?=some (x,g)) (hv:S.gv[k]?=some true):Gl X x∧(x == ("__debug__" : Str))=false∧x ≠ "__name__" ∧ aU9 X S.calm x g :=
  ⟨(Q.gm k x g h).1 hv,(Q.gm k x g h).2⟩
section
variable {X:Cx} {S:SI} {ex:aY→bM}
theorem aCN {e:Expr}:gG X e av9:=fun _ _ _ _ _ _ ⟨_,_,_,_,_,z,_⟩=>z.elim
theorem aH7 {o:Operator}:aiP X (binaryOp o) (aKP o):=by
  have no:∀ {f:Value→Value→Sem Value},aiP X f (fun _ _ _ _=>False):=fun {f}=>⟨fun _ _ _ _=>False,fun _ _ _ _ _ _ _ _ _ _ _ _ h=>h.elim,fun _ _ _ _ _ _ _ _ _ _ _ h _=>h.elim⟩
  exact match o with
  | .Add=>aSW
  | .Sub=>aSS
  | .Mult=>aST
  | .FloorDiv=>aMT
  | .Mod=>aSU
  | .Pow=>aSV
  | .MatMult=>no
  | .Div=>no
  | .LShift=>no
  | .RShift=>no
  | .BitOr=>no
  | .BitXor=>no
  | .BitAnd=>no
theorem aaD {o:CmpOp} (hu:X.A.units+64 < cLine):yV X (compareOp o) (ajC o):=by
  exact match o with
  | .Eq=>aY4 hu
  | .NotEq=>aY5 hu
  | .Lt=>aXF
  | .LtE=>aXI
  | .Gt=>aXG
  | .GtE=>aXH
  | .Is=>aXJ
  | .IsNot=>aMV
  | .In=>aY7 hu
  | .NotIn=>aG3 hu
theorem aUA {n:String}:fL X (.type n) (aOM n):=by
  unfold aOM
  split
  · rename_i h;subst h;exact aT9
  · split
    · rename_i h;subst h;exact aND
    · split
      · rename_i h;subst h;exact aU5
      · split
        · rename_i h;subst h;exact aGX
        · exact fun _ _ _ _ _ _ _ _ _ _ _ _ _ _ h _=>h.elim
theorem aCO {qt:Bool} {k:Nat} {f:Addr} {fd:FuncData} {ps:List Str} {sp:zL} {x:Str} {p pos:Pos} (F:dH qt X.prog X.w X.K X.mg X.base (tQ X.prog X.w) k f fd ps (gB X.K sp)) (hr:oO qt k X.A) (hg:Gl X x) (hm:X.mg x=some (.ref f)) (hk:PySem.W.keepIn X.K (.ref f)=true) (hb:Binds X.K fd ps []) (hx:Cat X ex)
    (hdb:(x == ("__debug__" : Str))=false):gG X (.Call (.Name x p) [] [] pos) (aU sp ex aH):=by
  intro pins s σ H Q I h
  obtain ⟨ρ,G,R,sr,g,q,kk⟩:=h
  refine wpAny_Call_Name_kw (yU I hg hm ?_ hdb)
  refine PySem.W.callWith_K0 I.kIn hk ?_
  exact awT (E:=ab0 X.K (ex ρ)) F hr hb (fun e s' c=>hx.ar4 pins σ H s ρ e s' I sr c) I .nil (Q:=fun v H'=>∃ d G',RD X.K H' d v∧HR X.K H' G'∧R d G') ⟨[],G,R,ex ρ,.nil,g,q,fun v H' d G' r2 g2 q2=>⟨d,G',r2,g2,q2⟩,fun C H' G' g' q'=>⟨C,G',rfl,g',q'⟩⟩ fun v H' t2 ⟨d,G',r2,g2,q2⟩=>kk v H' d G' t2 r2 g2 q2
theorem abT {xs:List Expr} {cs:CEs} {cp:Pos} (h:kEs S cs xs=true) (hl:xs.length < 30):((backTo cp (starEach xs X.env)).all (fun x=>!x.1)&&(backToKw cp (keywordEach [] X.env)).all (fun x=>x.1.isSome)
      && decide (xs.length+([]:List Keyword).length+(if ([]:List Keyword).isEmpty then 0 else 1) < 30))=true:=by
  have h1:(backTo cp (starEach xs X.env)).all (fun x=>!x.1)=true:=by
    rw [List.all_eq_true]
    intro y hy
    have:=zT (env:=X.env) (pos:=cp) h
    rw [List.any_eq_false] at this
    have:=this y hy
    simpa using this
  have h2:(decide (xs.length+([]:List Keyword).length+(if ([]:List Keyword).isEmpty then 0 else 1) < 30))=true:=decide_eq_true (by simpa using hl)
  rw [h1,h2];rfl
end
end L4
namespace L4
open PySem PySem.Spec PyProof.Rows L2
section
variable {X:Cx} {S:SI} {ex:aY→bM}
theorem aOW {d:D} {c:Const} {j:Nat} {pos:Pos} (h:aKR d c=true):gG X (.Constant c j pos) (bY d):=by
  cases d <;> cases c <;> first | exact absurd (show false=true from h) (by decide) | skip
  · exact aSE
  · have:=beq_iff_eq.mp h;subst this;exact aXA
  · have:=beq_iff_eq.mp h;subst this;exact aSD
  · have:=beq_iff_eq.mp h;subst this;exact aSF
theorem aOX {e:Expr} (h:plainT e=true):∀ whole,isTrue e X.env whole=(do let v ← whole;standAt e.pos;holding [v] (truthy v)):=by
  cases e with
  | UnaryOp op x p=>cases op <;> first | exact absurd (show false=true from h) (by decide) | (intro _;rfl)
  | BoolOp _ _ _=>exact absurd (show false=true from h) (by decide)
  | IfExp _ _ _ _=>exact absurd (show false=true from h) (by decide)
  | Compare _ _ _ _=>exact absurd (show false=true from h) (by decide)
  | _=>intro _;rfl
theorem aKS {e:Expr} (h:isSlice e=false):ao4 e:=by
  cases e with
  | Slice _ _ _ _=>exact absurd (show true=false from h) (by decide)
  | _=>intro _ _;rfl
theorem aUB (Q:zU X S ex) {k:Nat} {x:Str} {b:BF} (hk:S.gl[k]?=some (x,.bf b)) (hv:S.gv[k]?=some true) (hc:(S.calm || avA b)=true) {e:Expr} {es:List Expr} {t:zQ} {p pos:Pos} (ha:PA3 X (e :: es) t) (he:isStar e=false) (hp:(backTo pos (starEach es X.env)).any (·.1)=false):gG X (.Call (.Name x p) (e :: es) [] pos) (qF (aU7 X.K b) t):=by
  obtain ⟨h1,h2,h3,h4⟩:=Q.gl _ _ _ hk hv
  have cm:avA b=false→X.calm=true:=fun z=>by
    rw [z,Bool.or_false] at hc
    exact Q.cm hc
  cases b with
  | len=>exact a5C aT7 h1 h4.1 h4.2 ha h3 h2 (bQ he) hp
  | isi=>exact a5C aoG h1 h4.1 h4.2 ha h3 h2 (bQ he) hp
  | min=>exact a5C (aO2 (cm rfl)) h1 h4.1 h4.2 ha h3 h2 (bQ he) hp
  | sum=>exact a5C (aTN (cm rfl)) h1 h4.1 h4.2 ha h3 h2 (bQ he) hp
  | an2=>exact a5C aGO h1 h4.1 h4.2 ha h3 h2 (bQ he) hp
  | aCI=>exact a5C aOB h1 h4.1 h4.2 ha h3 h2 (bQ he) hp
  | as3=>exact a5C (aGW (cm rfl)) h1 h4.1 h4.2 ha h3 h2 (bQ he) hp
  | as4=>exact arB (aGZ (cm rfl)) h1 h4.1 h4.2 ha h3 h2 (bQ he) hp
theorem aH8 {m:MK} {o:Expr} {to:dX} {ap cp:Pos} (ho:gG X o to) (hb:eE o=true) (hl:(ap.endLine == cp.line)=true):gG X (.Call (.Attribute o (mkN m) ap) [] [] cp) (aG5 (mkT m) (mkR m) to):=by
  cases m with
  | append=>exact aBI PySem.F.plainAttrs_list PySem.F.slot_list_append PySem.F.type_list_append arD ho (qG hb) hl
  | pop=>exact aBI PySem.F.plainAttrs_list PySem.F.slot_list_pop PySem.F.type_list_pop aKF ho (qG hb) hl
  | af3=>exact aBI PySem.F.plainAttrs_list PySem.F.slot_list_index PySem.F.type_list_index arZ ho (qG hb) hl
theorem aCP {m:MK} {o e:Expr} {es:List Expr} {to:dX} {t:zQ} {cs:CEs} {ap cp:Pos} (ho:gG X o to) (ha:PA3 X (e :: es) t) (hb:eE o=true) (hl:(ap.endLine == cp.line)=true) (hk:kEs S cs (e :: es)=true) (hn:(e :: es).length < 30) :
    gG X (.Call (.Attribute o (mkN m) ap) (e :: es) [] cp) (tM3 (mkT m) (mkR m) to t):=by
  have he:isStar e=false:=by
    cases cs with
    | nil=>exact absurd (show false=true from hk) (by decide)
    | cons c r =>
      have h':(!isStar e&&kE S c e&&kEs S r es)=true:=hk
      simp only [Bool.and_eq_true,Bool.not_eq_true'] at h'
      exact h'.1.1
  have hp:(backTo cp (starEach es X.env)).any (·.1)=false:=by
    have:=zT (env:=X.env) (pos:=cp) hk
    rw [bQ he] at this
    have z:(false || (backTo cp (starEach es X.env)).any (·.1))=false:=this
    simpa using z
  cases m with
  | append=>exact aNI PySem.F.plainAttrs_list PySem.F.slot_list_append PySem.F.type_list_append arD ho ha (qG hb) (abT hk hn) hl (bQ he) hp
  | pop=>exact aNI PySem.F.plainAttrs_list PySem.F.slot_list_pop PySem.F.type_list_pop aKF ho ha (qG hb) (abT hk hn) hl (bQ he) hp
  | af3=>exact aNI PySem.F.plainAttrs_list PySem.F.slot_list_index PySem.F.type_list_index arZ ho ha (qG hb) (abT hk hn) hl (bQ he) hp
theorem aUC {m:DM} {o e:Expr} {es:List Expr} {to:dX} {t:zQ} {cs:CEs} {ap cp:Pos} (hu:X.A.units+64 < cLine) (ho:gG X o to) (ha:PA3 X (e :: es) t) (hb:eE o=true) (hl:(ap.endLine == cp.line)=true) (hk:kEs S cs (e :: es)=true) (hn:(e :: es).length < 30) :
    gG X (.Call (.Attribute o (dmN m) ap) (e :: es) [] cp) (av6 (dmR m) to t):=by
  have he:isStar e=false:=by
    cases cs with
    | nil=>exact absurd (show false=true from hk) (by decide)
    | cons c r =>
      have h':(!isStar e&&kE S c e&&kEs S r es)=true:=hk
      simp only [Bool.and_eq_true,Bool.not_eq_true'] at h'
      exact h'.1.1
  have hp:(backTo cp (starEach es X.env)).any (·.1)=false:=by
    have:=zT (env:=X.env) (pos:=cp) hk
    rw [bQ he] at this
    have z:(false || (backTo cp (starEach es X.env)).any (·.1))=false:=this
    simpa using z
  cases m with
  | sdf=>exact aTV PySem.F.slot_dict_setdefault PySem.F.type_dict_setdefault (aTW hu) ho ha (qG hb) (abT hk hn) hl (bQ he) hp
  | pop=>exact aTV PySem.F.slot_dict_pop PySem.F.type_dict_pop (aOA hu) ho ha (qG hb) (abT hk hn) hl (bQ he) hp
local macro_rules | `(tactic| walk_at "off")=>`(tactic| exact absurd (show false=true from by assumption) (by decide))
theorem aOY (Q:zU X S ex) {k:Nat} {x:Str} {p:Pos} (h:kE S (.glo k) (.Name x p)=true):gG X (.Name x p) (aON S.gl k):=by
  have h':(S.gv[k]? == some true&&aCM S k x)=true:=h
  rw [Bool.and_eq_true] at h'
  obtain ⟨hv,h⟩:=h'
  have hv:=beq_iff_eq.mp hv
  unfold aCM at h
  unfold aON
  split at h
  · rename_i y d hk
    have:=beq_iff_eq.mp h;subst this
    obtain ⟨h1,h2,h3,u,v,h4,h5,h6⟩:=Q.gl _ _ _ hk hv
    exact aB3 h1 h4 h5 h6 h2
  · rename_i y d hk
    have:=beq_iff_eq.mp h;subst this
    obtain ⟨h1,h2,h3,h4⟩:=Q.gl _ _ _ hk hv
    exact aB3 h1 h4.1 (v := .ref d) rfl (fun _ => .ref _) h2
  · rename_i y d hk
    have:=beq_iff_eq.mp h;subst this
    obtain ⟨h1,h2,h3,h4⟩:=Q.gl _ _ _ hk hv
    exact aMP h1 h4.1 h4.2 h3 h2
  · exact absurd h (by decide)
theorem aH9 (Q:zU X S ex) {k:Nat} {es:CEs} {x:Str} {p pos:Pos} {xs:List Expr} (ha:PA3 X xs (mA S.gl X.K ex es)) (hk:kEs S es xs=true) (hv:S.gv[k]?=some true) (h:axG S k x (!xs.isEmpty)=true):gG X (.Call (.Name x p) xs [] pos) (aOO S.gl X.K ex k (mA S.gl X.K ex es)):=by
  unfold axG at h
  unfold aOO
  have one:∀ {e:Expr} {r:List Expr},xs=e :: r→isStar e=false∧(backTo pos (starEach r X.env)).any (·.1)=false:=fun {e r} z=>by
    subst z
    cases es with
    | nil=>exact absurd (show false=true from hk) (by decide)
    | cons c cr =>
      have h':(!isStar e&&kE S c e&&kEs S cr r)=true:=hk
      simp only [Bool.and_eq_true,Bool.not_eq_true'] at h'
      exact ⟨h'.1.1,zT h'.2⟩
  split at h
  · rename_i y sp n qt hg
    rw [Bool.and_eq_true] at h
    obtain ⟨h,hc⟩:=h
    have:=beq_iff_eq.mp h;subst this
    obtain ⟨h1,h2,h3,h4⟩:=Q.gl _ _ _ hg hv
    obtain ⟨j,f,fd,ps,F,hr,hm,hkp,hb⟩:=h4 (Bool.or_eq_true _ _ |>.mp hc)
    cases xs with
    | nil =>
      cases es with
      | nil=>exact aCO F hr h1 hm hkp hb Q.cat h2
      | cons _ _=>exact absurd (show false=true from hk) (by decide)
    | cons e r=>exact aFY F hr h1 hm hkp hb Q.cat ha h2 (bQ (one rfl).1) (one rfl).2
  · rename_i y a hg
    have:=beq_iff_eq.mp h;subst this
    obtain ⟨h1,h2,h3,h4,h5⟩:=Q.gl _ _ _ hg hv
    cases xs with
    | nil =>
      cases es with
      | nil=>exact aO3 PySem.F.excBase_ValueError (by decide) PySem.F.excBase_ValueError h1 h4 h5 h2
      | cons _ _=>exact absurd (show false=true from hk) (by decide)
    | cons e r=>exact aTP PySem.F.excBase_ValueError (by decide) PySem.F.excBase_ValueError h1 h4 h5 ha h2 (bQ (one rfl).1) (one rfl).2
  · rename_i y b hg
    rw [Bool.and_eq_true,Bool.and_eq_true] at h
    obtain ⟨⟨h,hc⟩,hcm⟩:=h
    have:=beq_iff_eq.mp h;subst this
    cases xs with
    | nil=>exact absurd (show false=true from hc) (by decide)
    | cons e r=>exact aUB Q hg hv hcm ha (one rfl).1 (one rfl).2
  · rename_i y n hg
    rw [Bool.and_eq_true] at h
    obtain ⟨h,hc⟩:=h
    have:=beq_iff_eq.mp h;subst this
    obtain ⟨h1,h2,h3,h4⟩:=Q.gl _ _ _ hg hv
    cases xs with
    | nil=>exact absurd (show false=true from hc) (by decide)
    | cons e r=>exact arB aUA h1 h4.1 h4.2 ha h3 h2 (bQ (one rfl).1) (one rfl).2
  · rename_i y C sp dd hg
    rw [Bool.and_eq_true] at h
    obtain ⟨h,hc⟩:=h
    have:=beq_iff_eq.mp h;subst this
    obtain ⟨h1,h2,h3,h4⟩:=Q.gl _ _ _ hg hv
    obtain ⟨kk,f,fd,ps,ds,dvs,q1,q2,q3,q4,q5,q6,q7⟩:=h4 hc
    cases xs with
    | nil =>
      cases es with
      | nil=>exact aC4 q1 q2 q3 h1 q4 q5 q6 q7 Q.cat h2
      | cons _ _=>exact absurd (show false=true from hk) (by decide)
    | cons e r=>exact aGJ q1 q2 q3 h1 q4 q5 q6 q7 Q.cat ha h2 (bQ (one rfl).1) (one rfl).2
  · exact absurd h (by decide)
theorem zV {names:List (Str×NameKind)} {env:Env} {y:Str} {k:NameKind} (h:names.lookup y=some k) :
    (names.map fun (n,k)=>if (k == .free&&env.scope.kind == .function&&env.kindOf n == some .cell) then (n,.cell) else (n,k)).lookup y=some k ∨
    (k = .free∧(names.map fun (n,k)=>if (k == .free&&env.scope.kind == .function&&env.kindOf n == some .cell) then (n,.cell) else (n,k)).lookup y=some .cell):=by
  induction names with
  | nil=>simp at h
  | cons p r ih =>
    obtain ⟨n,kd⟩:=p
    rw [List.lookup_cons] at h
    show List.lookup y ((if (kd == .free&&env.scope.kind == .function&&env.kindOf n == some .cell)=true then (n,NameKind.cell) else (n,kd)) :: _)=some k∨(k = .free∧List.lookup y ((if (kd == .free&&env.scope.kind == .function&&env.kindOf n == some .cell)=true then (n,NameKind.cell) else (n,kd)) :: _)=some .cell)
    cases hx:y == n with
    | true =>
      rw [hx] at h
      have hkd:kd=k:=by simpa using h
      subst hkd
      by_cases hc:(kd == .free&&env.scope.kind == .function&&env.kindOf n == some .cell)=true
      · rw [if_pos hc,List.lookup_cons,hx]
        refine .inr ⟨?_,rfl⟩
        simp only [Bool.and_eq_true,beq_iff_eq] at hc
        exact hc.1.1
      · rw [if_neg hc,List.lookup_cons,hx]
        exact .inl rfl
    | false =>
      rw [hx] at h
      have z:=ih h
      by_cases hc:(kd == .free&&env.scope.kind == .function&&env.kindOf n == some .cell)=true
      · rw [if_pos hc,List.lookup_cons,hx]
        exact z
      · rw [if_neg hc,List.lookup_cons,hx]
        exact z
theorem an4:∀ {xs:List Str},aoV xs=true→xs.Nodup
  | [],_=>List.nodup_nil
  | x :: r,h=>by
    have h':(!r.contains x&&aoV r)=true:=h
    rw [Bool.and_eq_true] at h'
    exact List.nodup_cons.mpr ⟨by simpa using h'.1,an4 h'.2⟩
theorem agD {xs:List Str} {scope:Scope} {fl gv:List Bool} (h:an3 S xs scope fl gv=true) :
    scope.kind = .function∧(∀ y∈scope.names,y.2 ≠ .cell∧(y.2 = .local→scope.names.lookup y.1=some .local)∧(y.2 = .free→aOV S y.1=true)) ∧
    (∀ x∈xs,scope.names.lookup x=some .local∧x ∉ S.N∧(x == ("__debug__" : Str))=false∧(x == ("__classdict__" : Str))=false)∧xs.Nodup∧(∀ y∈S.N,scope.names.lookup y≠some .local) ∧
    (∀ (i:Nat) (y:Str),S.N[i]?=some y→fl[i]?=some true→S.fl[i]?=some true∧scope.names.lookup y=some .free) ∧
    ∀ (k:Nat) (y:Str) (g:GT),S.gl[k]?=some (y,g)→gv[k]?=some true→scope.names.lookup y=some .globalImplicit:=by
  unfold an3 at h
  simp only [Bool.and_eq_true] at h
  obtain ⟨⟨⟨⟨⟨⟨h1,h2⟩,h3⟩,h4⟩,h5⟩,h8⟩,h9⟩:=h
  refine ⟨beq_iff_eq.mp h1,fun y hy=>?_,fun x hx=>?_,an4 h4,fun y hy=>?_,fun i y e1 e2=>?_,fun k y g e1 e2=>?_⟩
  · have z:=List.all_eq_true.mp h2 y hy
    simp only [Bool.and_eq_true,bne_iff_ne,ne_eq,Bool.or_eq_true,beq_iff_eq] at z
    obtain ⟨⟨z1,z2⟩,z3⟩:=z
    exact ⟨z1,fun e=>z2.resolve_left fun n=>n e,fun e=>z3.resolve_left fun n=>n e⟩
  · have z:=List.all_eq_true.mp h3 x hx
    simp only [Bool.and_eq_true] at z
    obtain ⟨⟨⟨z1,z2⟩,z3⟩,z4⟩:=z
    exact ⟨beq_iff_eq.mp z1,by simpa using z2,by simpa using z3,by simpa using z4⟩
  · have z:=List.all_eq_true.mp h5 y hy
    simpa using z
  · have z:=List.all_eq_true.mp h8 i (List.mem_range.mpr (List.getElem?_eq_some_iff.mp e1).1)
    rw [e2,e1] at z
    simpa using z
  · have z:=List.all_eq_true.mp h9 k (List.mem_range.mpr (List.getElem?_eq_some_iff.mp e1).1)
    rw [e2,e1] at z
    simpa using z
theorem af5 (Q:zU X S ex) {xs:List Str} {scope:Scope} {fl gv:List Bool} (h:an3 S xs scope fl gv=true):abS X xs scope:=by
  obtain ⟨h1,h2,h3,h4,h5,h8,h9⟩:=agD h
  refine ⟨h1,fun y hy=>(h2 y hy).1,fun y hy=>(h2 y hy).2.1,fun x hx=>(h3 x hx).1,fun y hy e=>?_,fun x hx=>by rw [Q.N];exact (h3 x hx).2.1,h4,by rw [Q.N];exact h5⟩
  have z:=(h2 y hy).2.2 e
  unfold aOV at z
  obtain ⟨i,_,z⟩:=List.any_eq_true.mp z
  rw [Bool.and_eq_true] at z
  exact Q.ce i y.1 (beq_iff_eq.mp z.1) (beq_iff_eq.mp z.2)
theorem aCQ {X:Cx}:Cat X NoX:=⟨fun _ _ _ _ _ _ _ _ _ ⟨_,_,_,_,_,_,_,_,_,_,_,_,z⟩=>by obtain ⟨_,_,_,_,z⟩:=z;exact z.elim⟩
theorem an5 {α:Type} {xs ys:List α} {i:Nat} {y:α} (h:(xs++ys)[i]?=some y):(i < xs.length∧y∈xs)∨∃ j,i=xs.length+j∧ys[j]?=some y:=by
  by_cases c:i < xs.length
  · rw [List.getElem?_append_left c] at h
    exact .inl ⟨c,List.mem_of_getElem? h⟩
  · rw [List.getElem?_append_right (by omega)] at h
    exact .inr ⟨i - xs.length,by omega,h⟩
theorem axH {α β:Type} {xs:List α} {f:α→β} {ys:List β} {j:Nat}:(xs.map f++ys)[xs.length+j]?=ys[j]?:=by
  rw [List.getElem?_append_right (by simp)]
  congr 1
  simp
theorem zU.cmp (Q:zU X S ex) {xs:List Str} {scope:Scope} {fl gv:List Bool} (h:an3 S xs scope fl gv=true) (C:Addr) (s:Shared) (H:Hp) (fp:List Addr) (pins:List (Addr×Obj)):zU (a2N X xs scope C s H fp pins) (S.cmp xs fl gv) NoX:=by
  obtain ⟨h1,h2,h3,h4,h5,h8,h9⟩:=agD h
  refine ⟨by show xs++X.N=xs++S.N;rw [Q.N],aBR (N:=X.N) (af5 Q h) Q.nd,fun i y e1 e2=>?_,fun i y e1 e2=>?_,fun k y g e1=>?_,Q.hu,Q.cm,aCQ⟩
  · rcases an5 e1 with ⟨_,m⟩ | ⟨j,rfl,e1'⟩
    · obtain ⟨a1,a2,a3,a4⟩:=h3 y m
      exact ⟨.inl (lookup_relabel_local a1),a3,a4⟩
    · have e2':fl[j]?=some true:=axH.symm.trans e2
      obtain ⟨a1,a2⟩:=h8 j y e1' e2'
      obtain ⟨_,b2,b3⟩:=Q.vis j y e1' a1
      refine ⟨?_,b2,b3⟩
      rcases zV (env:=X.env) a2 with z | ⟨_,z⟩
      · exact .inr (.inr z)
      · exact .inr (.inl z)
  · rcases an5 e1 with ⟨c,m⟩ | ⟨j,rfl,e1'⟩
    · have e2':(xs.map (fun _=>false)++fl)[i]?=some true:=e2
      rw [List.getElem?_append_left (by simpa using c)] at e2'
      simp at e2'
    · have e2':fl[j]?=some true:=axH.symm.trans e2
      obtain ⟨a1,a2⟩:=h8 j y e1' e2'
      rcases zV (env:=X.env) a2 with z | ⟨_,z⟩
      · exact .inr z
      · exact .inl z
  · obtain ⟨b1,b2,b3,b4⟩:=Q.gm k y g e1
    refine ⟨fun e2=>?_,b2,b3,?_⟩
    · rcases zV (env:=X.env) (h9 k y g e1 e2) with z | ⟨z,_⟩
      · exact z
      · cases z
    · cases g <;> exact b4
theorem as5 (Q:zU X S ex) (h:ad0 S=true):Gl X "range" ∧ X.mg "range" = none:=by
  unfold ad0 at h
  obtain ⟨k,_,h⟩:=List.any_eq_true.mp h
  rw [Bool.and_eq_true] at h
  obtain ⟨hv,h⟩:=h
  split at h
  · rename_i y n e
    rw [Bool.and_eq_true] at h
    have:=beq_iff_eq.mp h.1
    subst this
    obtain ⟨g1,g2,g3,g4⟩:=Q.gl _ _ _ e (beq_iff_eq.mp hv)
    exact ⟨g1,g4.1⟩
  · exact absurd h (by decide)
theorem axI {k:Nat} {x:Str} (h:azI S k x=true):∃ y C,S.gl[k]?=some (y,.fl C x):=by
  unfold azI at h
  split at h
  · rename_i y C f e
    have:=beq_iff_eq.mp h
    subst this
    exact ⟨y,C,e⟩
  · exact absurd h (by decide)
theorem aHA {k:Nat} {x:Str} (h:aH6 S k x=true):∃ y C sp dd,S.gl[k]?=some (y,.me C x sp dd):=by
  unfold aH6 at h
  split at h
  · rename_i y C m sp dd e
    have:=beq_iff_eq.mp h
    subst this
    exact ⟨y,C,sp,dd,e⟩
  · exact absurd h (by decide)
theorem aCR {neg:Bool} {o:CmpOp} (hu:X.A.units+64 < cLine) (h:(o == (if neg then CmpOp.NotIn else CmpOp.In))=true):yV X (compareOp o) (aOR neg):=by
  have:=beq_iff_eq.mp h
  subst this
  cases neg with
  | true=>exact aO5 hu
  | false=>exact aTU hu
theorem aHB {o:Expr} {m:Str} {ap cp:Pos} {args:List Expr} {env:Env} (hb:attributeBase o m env (eval o env)=eval o env) (hf:((backTo cp (starEach args env)).all (fun x=>!x.1)&&(backToKw cp (keywordEach [] env)).all (fun x=>x.1.isSome)
      && decide (args.length+([]:List Keyword).length+(if ([]:List Keyword).isEmpty then 0 else 1) < 30))=true) (hl:(ap.endLine == cp.line)=true):∃ pl:Sem Bool,eval (.Call (.Attribute o m ap) args [] cp) env=(do
      let ov ← eval o env
      standAt ap.atName
      let (f,first) ← holding [ov] (getMethod ov m pl)
      callWith cp f first (backTo cp (starEach args env)) (backToKw cp (keywordEach [] env))):=by
  rw [arm_eval_Call,hb]
  have hform:methodCallForm (args.length+([]:List Keyword).length) (backTo cp (starEach args env)) (backToKw cp (keywordEach [] env))=true:=hf
  have hpos:methodCallPos true o env ap cp=pure cp:=by unfold methodCallPos;simp [hl]
  refine ⟨?_,?_⟩
  rotate_left
  · unfold methodCall
    rw [hform]
    simp only [hpos,pure_bind]
    rfl
theorem axJ (Q:zU X S ex) {k:Nat} {x:Str} {nm:String} (h:azJ S k x nm=true) (hv:S.gv[k]?=some true):Gl X x∧X.mg x=none∧bootBuiltins x=some (.builtin nm)∧x ≠ "__name__" ∧ (x == ("__debug__" : Str))=false:=by
  unfold azJ at h
  split at h
  · rename_i y b e
    rw [Bool.and_eq_true] at h
    have e1:=beq_iff_eq.mp h.1
    have e2:=beq_iff_eq.mp h.2
    subst e1
    obtain ⟨g1,g2,g3,g4⟩:=Q.gl _ _ _ e hv
    exact ⟨g1,g4.1,by rw [← e2];exact g4.2,g3,g2⟩
  · exact absurd h (by decide)
theorem as6 {w y:Expr} {n:Str} {l:Bool} (h:agC w=some (y,n,l)):∃ ap cp,w = .Call (.Attribute y n ap) [] [] cp∧l=(ap.endLine == cp.line):=by
  unfold agC at h
  split at h
  · cases h;exact ⟨_,_,rfl,rfl⟩
  · cases h
theorem aCS {neg:Bool} {o:CmpOp} (hu:X.A.units+64 < cLine) (h:(o == (if neg then CmpOp.NotEq else CmpOp.Eq))=true):yV X (compareOp o) (aj9 neg):=by
  have:=beq_iff_eq.mp h
  subst this
  exact aU6 hu
theorem aKT {e:Expr} {env:Env} (h:isSet e=false):∀ x,foldedSetIterable e env x=pure x:=by
  cases e <;> first | (intro _;rfl) | exact absurd (show true=false from h) (by decide)
end
end L4
namespace L4
open PySem PySem.Spec PyProof.Rows L2
theorem bB {P:Prop} (h:false=true):P:=absurd h (by decide)
mutual
theorem rO {X:Cx} {S:SI} {ex:aY→bM} (Q:zU X S ex):∀ (c:CE) (e:Expr),kE S c e=true→gG X e (mE S.gl X.K ex c)
  | .var i,e,h=>by
    cases e with
    | Name x p =>
      have h':(S.N[i]? == some x&&S.fl[i]? == some true)=true:=h
      rw [Bool.and_eq_true] at h'
      have e1:=beq_iff_eq.mp h'.1
      obtain ⟨v1,v2,v3⟩:=Q.vis i x e1 (beq_iff_eq.mp h'.2)
      exact aSC i (by rw [Q.N];exact e1) v1 v2 v3
    | _=>exact bB h
  | .con d,e,h=>by
    cases e with
    | Constant c j p=>exact aOW h
    | _=>exact bB h
  | .glo k,e,h=>by
    cases e with
    | Name x p=>exact aOY Q h
    | _=>exact bB h
  | .neg a,e,h=>by
    cases e with
    | UnaryOp op x p =>
      cases op with
      | USub=>exact aT6 (rO Q a x h)
      | _=>exact bB h
    | _=>exact bB h
  | .aCJ a,e,h=>by
    cases e with
    | UnaryOp op x p =>
      cases op with
      | Not=>exact aSN (rO Q a x h)
      | _=>exact bB h
    | _=>exact bB h
  | .bin o a b,e,h=>by
    cases e with
    | BinOp x o' y p =>
      have h':(o == o'&&kE S a x&&kE S b y)=true:=h
      simp only [Bool.and_eq_true] at h'
      have:=beq_iff_eq.mp h'.1.1;subst this
      exact aXB aH7 (rO Q a x h'.1.2) (rO Q b y h'.2)
    | _=>exact bB h
  | .cmp o a b,e,h=>by
    cases e with
    | Compare x ops ys p =>
      match ops,ys,h with
      | [o'],[y],h =>
        have h':(o == o'&&!behindInMarks o' y&&kE S a x&&kE S b y)=true:=h
        simp only [Bool.and_eq_true,Bool.not_eq_true'] at h'
        have:=beq_iff_eq.mp h'.1.1.1;subst this
        exact aB4 (aaD Q.hu) (rO Q a x h'.1.2) (rO Q b y h'.2) h'.1.1.2
      | [],_,h=>exact bB h
      | _ :: _ :: _,_,h=>exact bB h
      | [_],[],h=>exact bB h
      | [_],_ :: _ :: _,h=>exact bB h
    | _=>exact bB h
  | .chain o o' a b c,e,h=>by
    cases e with
    | Compare x ops ys p =>
      match ops,ys,h with
      | [p1,p2],[y,z],h =>
        have h':(o == p1&&o' == p2&&!lastMarks [p1,p2] [y,z]&&kE S a x&&kE S b y&&kE S c z)=true:=h
        simp only [Bool.and_eq_true,Bool.not_eq_true'] at h'
        have e1:=beq_iff_eq.mp h'.1.1.1.1.1
        have e2:=beq_iff_eq.mp h'.1.1.1.1.2
        subst e1;subst e2
        exact aFQ (aaD Q.hu) (aaD Q.hu) (rO Q a x h'.1.1.2) (rO Q b y h'.1.2) (rO Q c z h'.2) h'.1.1.1.2
      | [],_,h=>exact bB h
      | [_],_,h=>exact bB h
      | _ :: _ :: _ :: _,_,h=>exact bB h
      | [_,_],[],h=>exact bB h
      | [_,_],[_],h=>exact bB h
      | [_,_],_ :: _ :: _ :: _,h=>exact bB h
    | _=>exact bB h
  | .ajB es,e,h=>by
    cases e with
    | BoolOp op xs p =>
      cases op with
      | And=>exact aKU Q es xs p h
      | Or=>exact bB h
    | _=>exact bB h
  | .tup es,e,h=>by
    cases e with
    | Tuple xs j p=>exact aSO (okA Q es xs h)
    | _=>exact bB h
  | .lst es,e,h=>by
    cases e with
    | List xs p=>exact aSP (okA Q es xs h)
    | _=>exact bB h
  | .dct,e,h=>by
    cases e with
    | Dict ks vs p =>
      match ks,vs,h with
      | [],[],_=>exact aNJ
      | _ :: _,_,h=>exact bB h
      | [],_ :: _,h=>exact bB h
    | _=>exact bB h
  | .ix a b,e,h=>by
    cases e with
    | Subscript x y p =>
      have h':(!isSlice y&&kE S a x&&kE S b y)=true:=h
      simp only [Bool.and_eq_true,Bool.not_eq_true'] at h'
      exact aXK (rO Q a x h'.1.2) (rO Q b y h'.2) (aKS h'.1.1)
    | _=>exact bB h
  | .call k es,e,h=>by
    cases e with
    | Call f xs kws p =>
      cases f with
      | Name x q =>
        cases kws with
        | nil =>
          have h':(kEs S es xs&&S.gv[k]? == some true&&axG S k x (!xs.isEmpty))=true:=h
          simp only [Bool.and_eq_true] at h'
          exact aH9 Q (okA Q es xs h'.1.1) h'.1.1 (beq_iff_eq.mp h'.1.2) h'.2
        | cons _ _=>exact bB h
      | _=>exact bB h
    | _=>exact bB h
  | .meth m o .nil,e,h=>by
    cases e with
    | Call f xs kws p =>
      cases f with
      | Attribute y n ap =>
        cases kws with
        | nil =>
          have h':(n == mkN m&&eE y&&ap.endLine == p.line&&decide (xs.length < 30)&&kE S o y&&kEs S .nil xs)=true:=h
          simp only [Bool.and_eq_true] at h'
          obtain ⟨⟨⟨⟨⟨h1,h2⟩,h3⟩,h4⟩,h5⟩,h6⟩:=h'
          have:=beq_iff_eq.mp h1;subst this
          cases xs with
          | nil=>exact aH8 (rO Q o y h5) h2 h3
          | cons _ _=>exact bB h6
        | cons _ _=>exact bB h
      | _=>exact bB h
    | _=>exact bB h
  | .meth m o (.cons c r),e,h=>by
    cases e with
    | Call f xs kws p =>
      cases f with
      | Attribute y n ap =>
        cases kws with
        | nil =>
          have h':(n == mkN m&&eE y&&ap.endLine == p.line&&decide (xs.length < 30)&&kE S o y&&kEs S (.cons c r) xs)=true:=h
          simp only [Bool.and_eq_true] at h'
          obtain ⟨⟨⟨⟨⟨h1,h2⟩,h3⟩,h4⟩,h5⟩,h6⟩:=h'
          have:=beq_iff_eq.mp h1;subst this
          cases xs with
          | nil=>exact bB h6
          | cons x xs =>
            have h7:(!isStar x&&kE S c x&&kEs S r xs)=true:=h6
            simp only [Bool.and_eq_true,Bool.not_eq_true'] at h7
            exact aCP (rO Q o y h5) (abQ (rO Q c x h7.1.2) (okA Q r xs h7.2) (bQ h7.1.1)) h2 h3 h6 (of_decide_eq_true h4)
        | cons _ _=>exact bB h
      | _=>exact bB h
    | _=>exact bB h
  | .comp fl gv ci cc c,e,h=>by
    cases e with
    | ListComp elt gens scope p =>
      cases gens with
      | nil=>exact bB h
      | cons g gr =>
        cases gr with
        | cons _ _=>obtain ⟨tg,it,ifs,a⟩:=g;cases tg <;> exact bB h
        | nil =>
          obtain ⟨tg,it,ifs,a⟩:=g
          cases tg with
          | Name x px =>
            have h':(a == 0&&an3 S [x] scope fl gv&&!isSet it&&kI S false ci it&&kC (S.cmp [x] fl gv) cc ifs&&kE (S.cmp [x] fl gv) c elt)=true:=h
            simp only [Bool.and_eq_true,Bool.not_eq_true'] at h'
            obtain ⟨⟨⟨⟨⟨h2,h3⟩,h4⟩,h5⟩,h6⟩,h7⟩:=h'
            have:=beq_iff_eq.mp h2;subst this
            exact aGC (af5 Q h3) (fun C s H fp pins σ=>aNT (af5 Q h3) Q.nd) aBQ (okI (tt:=false) Q (fun z=>nomatch z) ci it h5) (fun C s H fp pins=>okC (Q.cmp h3 C s H fp pins) cc ifs h6) (fun C s H fp pins=>rO (Q.cmp h3 C s H fp pins) c elt h7) (aKT h4)
          | _=>exact bB h
    | _=>exact bB h
  | .fld k c,e,h=>by
    cases e with
    | Attribute y n p =>
      have h':(azI S k n&&eE y&&kE S c y)=true:=h
      simp only [Bool.and_eq_true] at h'
      obtain ⟨z,C,hg⟩:=axI h'.1.1
      obtain ⟨_,_,_,g⟩:=Q.gm _ _ _ hg
      show gG X _ (aOP S.gl k _)
      unfold aOP
      rw [hg]
      exact aTQ (rO Q c y h'.2) g.1 g.2 (qG h'.1.2)
    | _=>exact bB h
  | .uM k c cs,e,h=>by
    cases e with
    | Call f as ks p =>
      cases f with
      | Attribute y n ap =>
        cases ks with
        | cons _ _=>exact bB h
        | nil =>
          have h':(aH6 S k n&&S.calm&&eE y&&ap.endLine == p.line&&decide (as.length < 30)&&kE S c y&&kEs S cs as)=true:=h
          simp only [Bool.and_eq_true] at h'
          obtain ⟨⟨⟨⟨⟨⟨h1,h2⟩,h3⟩,h4⟩,h5⟩,h6⟩,h7⟩:=h'
          obtain ⟨z,C,sp,dd,hg⟩:=aHA h1
          obtain ⟨_,_,_,g⟩:=Q.gm _ _ _ hg
          obtain ⟨kk,f,fd,ps,ds,dvs,q1,q2,q3,q4,q5,q6,q7⟩:=g h2
          obtain ⟨pl,ht⟩:=aHB (env:=X.env) (m:=n) (qG h3) (abT (X:=X) (cp:=p) h7 (of_decide_eq_true h5)) h4
          show gG X _ (aOQ S.gl ex k _ _)
          unfold aOQ
          rw [hg]
          cases cs with
          | nil =>
            cases as with
            | cons _ _=>exact bB h7
            | nil=>exact aC3 (rO Q c y h6) q1 q2 q3 q4 q5 q6 q7 Q.cat ht
          | cons c1 cr =>
            cases as with
            | nil=>exact bB h7
            | cons a1 ar =>
              have h8:(!isStar a1&&kE S c1 a1&&kEs S cr ar)=true:=h7
              simp only [Bool.and_eq_true,Bool.not_eq_true'] at h8
              exact aGI (rO Q c y h6) q1 q2 q3 q4 q5 q6 q7 Q.cat (abQ (rO Q c1 a1 h8.1.2) (okA Q cr ar h8.2) (bQ h8.1.1)) (bQ h8.1.1) (zT h8.2) ht
      | _=>exact bB h
    | _=>exact bB h
  | .dix a b,e,h=>by
    cases e with
    | Subscript x y p =>
      have h':(!isSlice y&&kE S a x&&kE S b y)=true:=h
      simp only [Bool.and_eq_true,Bool.not_eq_true'] at h'
      exact aTT Q.hu (rO Q a x h'.1.2) (rO Q b y h'.2) (aKS h'.1.1)
    | _=>exact bB h
  | .din neg a b,e,h=>by
    cases e with
    | Compare x ops ys p =>
      match ops,ys,h with
      | [o'],[y],h =>
        have h':(o' == (if neg then CmpOp.NotIn else CmpOp.In)&&!behindInMarks o' y&&kE S a x&&kE S b y)=true:=h
        simp only [Bool.and_eq_true,Bool.not_eq_true'] at h'
        exact aB4 (aCR Q.hu h'.1.1.1) (rO Q a x h'.1.2) (rO Q b y h'.2) h'.1.1.2
      | [],_,h=>exact bB h
      | _ :: _ :: _,_,h=>exact bB h
      | [_],[],h=>exact bB h
      | [_],_ :: _ :: _,h=>exact bB h
    | _=>exact bB h
  | .dgt c d f,e,h=>by
    cases e with
    | Call g as ks p =>
      cases g with
      | Attribute y n ap =>
        match as,ks,h with
        | [],_,h=>exact bB h
        | [_],_,h=>exact bB h
        | _ :: _ :: _ :: _,_,h=>exact bB h
        | [_,_],_ :: _,h=>exact bB h
        | [x,z],[],h =>
          have h':(n == ("get" : Str)&&eE y&&ap.endLine == p.line&&!isStar x&&!isStar z&&kE S c y&&kE S d x&&kE S f z)=true:=h
          simp only [Bool.and_eq_true,Bool.not_eq_true'] at h'
          obtain ⟨⟨⟨⟨⟨⟨⟨h0,h1⟩,h2⟩,h3⟩,h4⟩,h5⟩,h6⟩,h7⟩:=h'
          have:=beq_iff_eq.mp h0;subst this
          have k2:kEs S (.cons d (.cons f .nil)) [x,z]=true:=by
            show (!isStar x&&kE S d x&&(!isStar z&&kE S f z&&true))=true
            rw [h3,h4,h6,h7];rfl
          exact aGK Q.hu (rO Q c y h5) (rO Q d x h6) (rO Q f z h7) ⟨qG h1,abT (X:=X) (cp:=p) k2 (show 2 < 30 by decide),h2,by rw [bQ h3,bQ h4];rfl⟩
      | _=>exact bB h
    | _=>exact bB h
  | .azH,e,h=>by
    cases e with
    | Dict ks vs p =>
      match ks,vs,h with
      | [],[],_=>exact aG6
      | _ :: _,_,h=>exact bB h
      | [],_ :: _,h=>exact bB h
    | _=>exact bB h
  | .dm m o c r,e,h=>by
    cases e with
    | Call f xs kws p =>
      cases f with
      | Attribute y n ap =>
        match xs,kws,h with
        | [],_,h=>exact bB h
        | _ :: _,_ :: _,h=>exact bB h
        | x :: xs,[],h =>
          have h':(n == dmN m&&eE y&&ap.endLine == p.line&&decide ((x :: xs).length < 30)&&kE S o y&&!isStar x&&kE S c x&&kEs S r xs)=true:=h
          simp only [Bool.and_eq_true] at h'
          obtain ⟨⟨⟨⟨⟨⟨⟨h1,h2⟩,h3⟩,h4⟩,h5⟩,h6⟩,h7⟩,h8⟩:=h'
          have:=beq_iff_eq.mp h1;subst this
          have hk:kEs S (.cons c r) (x :: xs)=true:=by
            show (!isStar x&&kE S c x&&kEs S r xs)=true
            rw [h6,h7,h8];rfl
          simp only [Bool.not_eq_true'] at h6
          exact aUC Q.hu (rO Q o y h5) (abQ (rO Q c x h7) (okA Q r xs h8) (bQ h6)) h2 h3 hk (of_decide_eq_true h4)
      | _=>exact bB h
    | _=>exact bB h
  | .sortI k c,e,h=>by
    cases e with
    | Call f as ks p =>
      cases f with
      | Name x q =>
        match as,ks,h with
        | [],_,h=>exact bB h
        | _ :: _ :: _,_,h=>exact bB h
        | [_],_ :: _,h=>exact bB h
        | [w],[],h =>
          have h':(S.calm&&S.gv[k]? == some true&&azJ S k x "sorted" && (match agC w with
            | some (y,n,l)=>l&&n == ("items" : Str)&&eE y&&kE S c y
            | none=>false))=true:=h
          simp only [Bool.and_eq_true] at h'
          obtain ⟨⟨⟨h1,h2⟩,h3⟩,h4⟩:=h'
          cases q2:agC w with
          | none=>rw [q2] at h4;exact bB h4
          | some z =>
            obtain ⟨y,n,l⟩:=z
            rw [q2] at h4
            simp only [Bool.and_eq_true] at h4
            obtain ⟨⟨⟨h5,h6⟩,h7⟩,h8⟩:=h4
            have e6:=beq_iff_eq.mp h6;subst e6
            obtain ⟨ap,cp,rfl,rfl⟩:=as6 q2
            obtain ⟨g1,g2,g3,g4,g5⟩:=axJ Q h3 (beq_iff_eq.mp h2)
            exact aH0 (Q.cm h1) (rO Q c y h8) g1 g2 g3 g4 g5 (qG h7) h5
      | _=>exact bB h
    | _=>exact bB h
  | .aH4 k c,e,h=>by
    cases e with
    | Call f as ks p =>
      cases f with
      | Name x q =>
        match as,ks,h with
        | [],_,h=>exact bB h
        | _ :: _ :: _,_,h=>exact bB h
        | [_],_ :: _,h=>exact bB h
        | [w],[],h =>
          have h':(S.calm&&S.gv[k]? == some true&&azJ S k x "sum" && (match agC w with
            | some (y,n,l)=>l&&n == ("values" : Str)&&eE y&&kE S c y
            | none=>false))=true:=h
          simp only [Bool.and_eq_true] at h'
          obtain ⟨⟨⟨h1,h2⟩,h3⟩,h4⟩:=h'
          cases q2:agC w with
          | none=>rw [q2] at h4;exact bB h4
          | some z =>
            obtain ⟨y,n,l⟩:=z
            rw [q2] at h4
            simp only [Bool.and_eq_true] at h4
            obtain ⟨⟨⟨h5,h6⟩,h7⟩,h8⟩:=h4
            have e6:=beq_iff_eq.mp h6;subst e6
            obtain ⟨ap,cp,rfl,rfl⟩:=as6 q2
            obtain ⟨g1,g2,g3,g4,g5⟩:=axJ Q h3 (beq_iff_eq.mp h2)
            exact aOJ (Q.cm h1) (rO Q c y h8) g1 g2 g3 g4 g5 (qG h7) h5
      | _=>exact bB h
    | _=>exact bB h
  | .deq neg a b,e,h=>by
    cases e with
    | Compare x ops ys p =>
      match ops,ys,h with
      | [o'],[y],h =>
        have h':(o' == (if neg then CmpOp.NotEq else CmpOp.Eq)&&kE S a x&&kE S b y)=true:=h
        simp only [Bool.and_eq_true] at h'
        have hb:behindInMarks o' y=false:=by
          have:=beq_iff_eq.mp h'.1.1
          subst this
          exact aiJ _ (by cases neg <;> decide) (by cases neg <;> decide)
        exact aB4 (aCS Q.hu h'.1.1) (rO Q a x h'.1.2) (rO Q b y h'.2) hb
      | [],_,h=>exact bB h
      | _ :: _ :: _,_,h=>exact bB h
      | [_],[],h=>exact bB h
      | [_],_ :: _ :: _,h=>exact bB h
    | _=>exact bB h
  | .aCK t a b,e,h=>by
    cases e with
    | Dict ks vs p =>
      match ks,vs,h with
      | [some x],[y],h =>
        have h':(kE S a x&&kE S b y)=true:=h
        rw [Bool.and_eq_true] at h'
        exact aH3 Q.hu (rO Q a x h'.1) (rO Q b y h'.2)
      | [],_,h=>exact bB h
      | [none],_,h=>exact bB h
      | some _ :: _ :: _,_,h=>exact bB h
      | none :: _ :: _,_,h=>exact bB h
      | [some _],[],h=>exact bB h
      | [some _],_ :: _ :: _,h=>exact bB h
    | _=>exact bB h
theorem okA {X:Cx} {S:SI} {ex:aY→bM} (Q:zU X S ex):∀ (c:CEs) (es:List Expr),kEs S c es=true→PA3 X es (mA S.gl X.K ex c)
  | .nil,es,h=>by
    cases es with
    | nil=>exact aB6
    | cons _ _=>exact bB h
  | .cons c r,es,h=>by
    cases es with
    | nil=>exact bB h
    | cons x xs =>
      have h7:(!isStar x&&kE S c x&&kEs S r xs)=true:=h
      simp only [Bool.and_eq_true,Bool.not_eq_true'] at h7
      exact abQ (rO Q c x h7.1.2) (okA Q r xs h7.2) (bQ h7.1.1)
theorem aKU {X:Cx} {S:SI} {ex:aY→bM} (Q:zU X S ex):∀ (c:CEs) (es:List Expr) (p:Pos),kEs S c es=true→gG X (.BoolOp .And es p) (aOS S.gl X.K ex c)
  | .nil,es,p,h=>aCN
  | .cons c .nil,es,p,h=>by
    match es,h with
    | [],h=>exact bB h
    | [x],h =>
      have h7:(!isStar x&&kE S c x&&kEs S .nil [])=true:=h
      simp only [Bool.and_eq_true,Bool.not_eq_true'] at h7
      exact aK4 (rO Q c x h7.1.2)
    | x :: y :: ys,h =>
      have h7:(!isStar x&&kE S c x&&kEs S .nil (y :: ys))=true:=h
      simp only [Bool.and_eq_true,Bool.not_eq_true'] at h7
      exact bB h7.2
  | .cons c (.cons c' r),es,p,h=>by
    match es,h with
    | [],h=>exact bB h
    | [x],h =>
      have h7:(!isStar x&&kE S c x&&kEs S (.cons c' r) [])=true:=h
      simp only [Bool.and_eq_true,Bool.not_eq_true'] at h7
      exact bB h7.2
    | x :: y :: ys,h =>
      have h7:(!isStar x&&kE S c x&&kEs S (.cons c' r) (y :: ys))=true:=h
      simp only [Bool.and_eq_true,Bool.not_eq_true'] at h7
      exact aSM (rO Q c x h7.1.2) (aKU Q (.cons c' r) (y :: ys) p h7.2)
theorem aYN {X:Cx} {S:SI} {ex:aY→bM} (Q:zU X S ex):∀ (c:CEs) (es:List Expr) (p:Pos),kEs S c es=true→gG X (.BoolOp .Or es p) (mOr S.gl X.K ex c)
  | .nil,es,p,h=>aCN
  | .cons c .nil,es,p,h=>by
    match es,h with
    | [],h=>exact bB h
    | [x],h =>
      have h7:(!isStar x&&kE S c x&&kEs S .nil [])=true:=h
      simp only [Bool.and_eq_true,Bool.not_eq_true'] at h7
      exact aK4 (rO Q c x h7.1.2)
    | x :: y :: ys,h =>
      have h7:(!isStar x&&kE S c x&&kEs S .nil (y :: ys))=true:=h
      simp only [Bool.and_eq_true,Bool.not_eq_true'] at h7
      exact bB h7.2
  | .cons c (.cons c' r),es,p,h=>by
    match es,h with
    | [],h=>exact bB h
    | [x],h =>
      have h7:(!isStar x&&kE S c x&&kEs S (.cons c' r) [])=true:=h
      simp only [Bool.and_eq_true,Bool.not_eq_true'] at h7
      exact bB h7.2
    | x :: y :: ys,h =>
      have h7:(!isStar x&&kE S c x&&kEs S (.cons c' r) (y :: ys))=true:=h
      simp only [Bool.and_eq_true,Bool.not_eq_true'] at h7
      exact aXD (rO Q c x h7.1.2) (aYN Q (.cons c' r) (y :: ys) p h7.2)
theorem okT {X:Cx} {S:SI} {ex:aY→bM} (Q:zU X S ex):∀ (c:CT) (e:Expr),kT S c e=true→PT3 X e (mT S.gl X.K ex c)
  | .cmp o a b,e,h=>by
    cases e with
    | Compare x ops ys p =>
      match ops,ys,h with
      | [o'],[y],h =>
        have h':(o == o'&&!behindInMarks o' y&&kE S a x&&kE S b y)=true:=h
        simp only [Bool.and_eq_true,Bool.not_eq_true'] at h'
        have:=beq_iff_eq.mp h'.1.1.1;subst this
        exact aB5 (aaD Q.hu) (rO Q a x h'.1.2) (rO Q b y h'.2) h'.1.1.2
      | [],_,h=>exact bB h
      | _ :: _ :: _,_,h=>exact bB h
      | [_],[],h=>exact bB h
      | [_],_ :: _ :: _,h=>exact bB h
    | _=>exact bB h
  | .chain o o' a b c,e,h=>by
    cases e with
    | Compare x ops ys p =>
      match ops,ys,h with
      | [p1,p2],[y,z],h =>
        have h':(o == p1&&o' == p2&&!lastMarks [p1,p2] [y,z]&&kE S a x&&kE S b y&&kE S c z)=true:=h
        simp only [Bool.and_eq_true,Bool.not_eq_true'] at h'
        have e1:=beq_iff_eq.mp h'.1.1.1.1.1
        have e2:=beq_iff_eq.mp h'.1.1.1.1.2
        subst e1;subst e2
        exact aFR (aaD Q.hu) (aaD Q.hu) (rO Q a x h'.1.1.2) (rO Q b y h'.1.2) (rO Q c z h'.2) h'.1.1.1.2
      | [],_,h=>exact bB h
      | [_],_,h=>exact bB h
      | _ :: _ :: _ :: _,_,h=>exact bB h
      | [_,_],[],h=>exact bB h
      | [_,_],[_],h=>exact bB h
      | [_,_],_ :: _ :: _ :: _,h=>exact bB h
    | _=>exact bB h
  | .not t,e,h=>by
    cases e with
    | UnaryOp op x p =>
      cases op with
      | Not=>exact aSL (okT Q t x h)
      | _=>exact bB h
    | _=>exact bB h
  | .or ts,e,h=>by
    cases e with
    | BoolOp op xs p =>
      cases op with
      | Or=>exact PW.pt (aKX Q ts xs p h)
      | And=>exact bB h
    | _=>exact bB h
  | .din neg a b,e,h=>by
    cases e with
    | Compare x ops ys p =>
      match ops,ys,h with
      | [o'],[y],h =>
        have h':(o' == (if neg then CmpOp.NotIn else CmpOp.In)&&!behindInMarks o' y&&kE S a x&&kE S b y)=true:=h
        simp only [Bool.and_eq_true,Bool.not_eq_true'] at h'
        exact aB5 (aCR Q.hu h'.1.1.1) (rO Q a x h'.1.2) (rO Q b y h'.2) h'.1.1.2
      | [],_,h=>exact bB h
      | _ :: _ :: _,_,h=>exact bB h
      | [_],[],h=>exact bB h
      | [_],_ :: _ :: _,h=>exact bB h
    | _=>exact bB h
  | .deq neg a b,e,h=>by
    cases e with
    | Compare x ops ys p =>
      match ops,ys,h with
      | [o'],[y],h =>
        have h':(o' == (if neg then CmpOp.NotEq else CmpOp.Eq)&&kE S a x&&kE S b y)=true:=h
        simp only [Bool.and_eq_true] at h'
        have hb:behindInMarks o' y=false:=by
          have:=beq_iff_eq.mp h'.1.1
          subst this
          exact aiJ _ (by cases neg <;> decide) (by cases neg <;> decide)
        exact aB5 (aCS Q.hu h'.1.1) (rO Q a x h'.1.2) (rO Q b y h'.2) hb
      | [],_,h=>exact bB h
      | _ :: _ :: _,_,h=>exact bB h
      | [_],[],h=>exact bB h
      | [_],_ :: _ :: _,h=>exact bB h
    | _=>exact bB h
  | .val c,e,h=>by
    have h':(plainT e&&kE S c e)=true:=h
    rw [Bool.and_eq_true] at h'
    exact aSH (rO Q c e h'.2) (aOX h'.1)
theorem aOZ {X:Cx} {S:SI} {ex:aY→bM} (Q:zU X S ex):∀ (c:CTs) (es:List Expr) (p:Pos),kTs S c es=true→PW3 X (.BoolOp .And es p) (aKQ S.gl X.K ex c)
  | .nil,es,p,h=>fun _ _ _ _ _ _ _ ⟨_,_,_,_,_,z,_⟩=>z.elim
  | .cons c .nil,es,p,h=>by
    match es,h with
    | [],h=>exact bB h
    | [x],h =>
      have h7:(kT S c x&&kTs S .nil [])=true:=h
      simp only [Bool.and_eq_true] at h7
      exact aMR (okT Q c x h7.1)
    | x :: y :: ys,h =>
      have h7:(kT S c x&&kTs S .nil (y :: ys))=true:=h
      simp only [Bool.and_eq_true] at h7
      exact bB h7.2
  | .cons c (.cons c' r),es,p,h=>by
    match es,h with
    | [],h=>exact bB h
    | [x],h =>
      have h7:(kT S c x&&kTs S (.cons c' r) [])=true:=h
      simp only [Bool.and_eq_true] at h7
      exact bB h7.2
    | x :: y :: ys,h =>
      have h7:(kT S c x&&kTs S (.cons c' r) (y :: ys))=true:=h
      simp only [Bool.and_eq_true] at h7
      exact aSK (okT Q c x h7.1) (aOZ Q (.cons c' r) (y :: ys) p h7.2)
theorem aKX {X:Cx} {S:SI} {ex:aY→bM} (Q:zU X S ex):∀ (c:CTs) (es:List Expr) (p:Pos),kTs S c es=true→PW3 X (.BoolOp .Or es p) (aOT S.gl X.K ex c)
  | .nil,es,p,h=>fun _ _ _ _ _ _ _ ⟨_,_,_,_,_,z,_⟩=>z.elim
  | .cons c .nil,es,p,h=>by
    match es,h with
    | [],h=>exact bB h
    | [x],h =>
      have h7:(kT S c x&&kTs S .nil [])=true:=h
      simp only [Bool.and_eq_true] at h7
      exact aSJ (okT Q c x h7.1)
    | x :: y :: ys,h =>
      have h7:(kT S c x&&kTs S .nil (y :: ys))=true:=h
      simp only [Bool.and_eq_true] at h7
      exact bB h7.2
  | .cons c (.cons c' r),es,p,h=>by
    match es,h with
    | [],h=>exact bB h
    | [x],h =>
      have h7:(kT S c x&&kTs S (.cons c' r) [])=true:=h
      simp only [Bool.and_eq_true] at h7
      exact bB h7.2
    | x :: y :: ys,h =>
      have h7:(kT S c x&&kTs S (.cons c' r) (y :: ys))=true:=h
      simp only [Bool.and_eq_true] at h7
      exact aXC (okT Q c x h7.1) (aKX Q (.cons c' r) (y :: ys) p h7.2)
theorem okO {X:Cx} {S:SI} {ex:aY→bM} (Q:zU X S ex):∀ (c:CO) (e:Option Expr),kO S c e=true→PO3 X e (mO S.gl X.K ex c)
  | .none,e,h=>by
    cases e with
    | none=>exact aMW
    | some _=>exact bB h
  | .some c,e,h=>by
    cases e with
    | none=>exact bB h
    | some x=>exact aMX (rO Q c x h)
theorem okI {X:Cx} {S:SI} {ex:aY→bM} (Q:zU X S ex) {tg:Expr} {tt:Bool} (htt:tt=true→X.calm=true∧∃ es kt pt,tg = .Tuple es kt pt):∀ (c:CI) (e:Expr),kI S tt c e=true→PI3 X tg e (mI S.gl X.K ex c)
  | .any c,e,h=>aTD (rO Q c e h)
  | .aCL c,e,h=>by
    cases e with
    | Call f as ks p =>
      cases f with
      | Name r q =>
        cases as with
        | nil=>exact bB h
        | cons y yr =>
          cases yr with
          | cons _ _=>exact bB h
          | nil =>
            cases ks with
            | cons _ _=>exact bB h
            | nil =>
              have h':(r == ("range" : Str)&&ad0 S&&!isStar y&&kE S c y)=true:=h
              simp only [Bool.and_eq_true,Bool.not_eq_true'] at h'
              obtain ⟨⟨⟨h1,h2⟩,h3⟩,h4⟩:=h'
              have:=beq_iff_eq.mp h1;subst this
              obtain ⟨g1,g2⟩:=as5 Q h2
              exact aNO g1 g2 (abQ (rO Q c y h4) aB6 (bQ h3)) (bQ h3)
      | _=>exact bB h
    | _=>exact bB h
theorem okC {X:Cx} {S:SI} (Q:zU X S NoX):∀ (c:CC) (es:List Expr),kC S c es=true→aBM X es (mC S.gl X.K c)
  | .none,es,h=>by
    cases es with
    | nil=>exact aGA
    | cons _ _=>exact bB h
  | .some t,es,h=>by
    match es,h with
    | [],h=>exact bB h
    | [x],h=>exact aGB (okT Q t x h)
    | _ :: _ :: _,h=>exact bB h
end
end L4
namespace L4
open PySem PySem.Spec PyProof.Rows L2
inductive CTg where
  | nm (i:Nat) | tup (is:List Nat)
mutual
inductive CS where
  | ret (e:CE) | expr (e:CE) | ifs (t:CT) (a b:CB) | set (i:Nat) (e:CE)
  | raise (k:Nat) (e:CE) (es:CEs) | aCT (k i:Nat) (b h:CB) | pass
  | aHC (ci:CI) (tg:CTg) (b:CB)
  | aHD (t:CT) (b:CB) | azK (k:Nat) (o e:CE) | aCU (o i e:CE)
inductive CB where
  | nil | cons (s:CS) (r:CB)
end
def aCV:cI:=fun _ _ _=>False
abbrev SI.han (S:SI):SI:={ S with calm:=false }
def mIS (T:List (Str×GT)) (K:Fg) (ex:aY→bM):CI→TI3
  | .any e=>aGE (mE T K ex e)
  | .aCL e=>aiZ (aA (mE T K ex e) aH)
def mG:CTg→TG3
  | .nm i=>aoM i
  | .tup is=>arG is
def aUE:Bool→Int→Int→Int
  | true=>fun a b=>a - b
  | false=>fun a b=>a+b
def aHE (T:List (Str×GT)) (ex:aY→bM) (k:Nat) (t:zQ):cI:=match T[k]? with
  | some (_,.cls a)=>vZ ex a t
  | _=>aCV
def aHF (T:List (Str×GT)) (K:Fg) (k i:Nat) (tb:(aY→bM)→cI) (th:cI):cI:=match T[k]? with
  | some (_,.cls a)=>amP K a i tb th
  | _=>aCV
def aP0 (T:List (Str×GT)) (k:Nat) (to te:dX):cI:=match T[k]? with
  | some (_,.fl C f)=>aeX C to te f
  | _=>aCV
def an6 (S:SI) (k:Nat) (x:Str):Bool:=match S.gl[k]? with
  | some (z,.cls _)=>z == x
  | _=>false
mutual
def mS (T:List (Str×GT)) (K:Fg) (ex:aY→bM):CS→cI
  | .ret e=>dZ (mE T K ex e)
  | .expr e=>iY (mE T K ex e)
  | .ifs t a b=>m7 (mT T K ex t) (mB T K ex a) (mB T K ex b)
  | .set i e=>oM i (mE T K ex e)
  | .raise k e es=>aHE T ex k (aA (mE T K ex e) (mA T K ex es))
  | .aCT k i b h=>aHF T K k i (fun EX2=>mB T K EX2 b) (mB T K NoX h)
  | .aHC ci tg b=>aoN (mIS T K ex ci) (mG tg) (mB T K ex b)
  | .aHD t b=>aoO (mT T K ex t) (mB T K ex b)
  | .azK k o e=>aP0 T k (mE T K ex o) (mE T K ex e)
  | .aCU o i e=>aj6 (mE T K ex o) (mE T K ex i) (mE T K ex e)
  | .pass=>dY
def mB (T:List (Str×GT)) (K:Fg) (ex:aY→bM):CB→cI
  | .nil=>dY
  | .cons s .nil=>mS T K ex s
  | .cons s (.cons s' r)=>bL (mS T K ex s) (mB T K ex (.cons s' r))
end
def isTup:Expr→Bool
  | .Tuple ..=>true
  | _=>false
def a5G:Expr→Bool
  | .ListComp ..=>true
  | .SetComp ..=>true
  | .DictComp ..=>true
  | _=>false
def kTg (S:SI):CTg→Expr→Bool
  | .nm i,.Name x _=>S.N[i]? == some x&&S.fl[i]? == some true
  | .tup is,.Tuple es _ _=>kNs S is es
  | _,_=>false
where
  kNs (S:SI):List Nat→List Expr→Bool
  | [],[]=>true
  | i :: is,.Name x _ :: es=>S.N[i]? == some x&&S.fl[i]? == some true&&kNs S is es
  | _,_=>false
def aP2 (S:SI):CTg→Bool
  | .nm _=>true
  | .tup _=>S.calm
mutual
def kS (S:SI) (lv:Nat):CS→Stmt→Bool
  | .ret e,.Return (some x) _=>kE S e x
  | .expr e,.Expr x _=>!a5G x&&kE S e x
  | .ifs t a b,.If x y z _=>kT S t x&&kB S lv a y&&kB S lv b z
  | .set i e,.Assign [.Name x _] y _=>S.N[i]? == some x&&S.fl[i]? == some true&&!a5G y&&kE S e y
  | .raise k e es,.Raise (some (.Call (.Name x _) (y :: ys) [] _)) none _=>lv == 0&&S.calm&&!isStar y&&kE S e y&&kEs S es ys&&S.gv[k]? == some true&&an6 S k x
  | .aCT k i b h,.Try y [.ExceptHandler (some (.Name x _)) (some n) (z :: zs) _] [] [] _=>lv == 0&&S.calm&&S.N[i]? == some n&&S.lc[i]? == some true&&kB S 1 b y&&kB S.han 2 h (z :: zs)&&S.gv[k]? == some true&&an6 S k x
  | .azK k o e,.Assign [.Attribute x n _] z _=>azI S k n&&!a5G z&&kE S o x&&kE S e z
  | .aCU o i e,.Assign [.Subscript x y _] z _=>!isSlice y&&!a5G z&&kE S o x&&kE S i y&&kE S e z
  | .aHD t b,.While x y [] _=>lv != 1&&kT S t x&&kB S lv b y
  | .aHC ci tg b,.For tgt iter body [] _=>lv != 1&&aP2 S tg&&!isSet iter&&kTg S tg tgt&&kI S (isTup tgt&&S.calm) ci iter&&kB S lv b body
  | .pass,.Pass _=>true
  | _,_=>false
def kB (S:SI) (lv:Nat):CB→List Stmt→Bool
  | .nil,[]=>true
  | .cons s r,x :: xs=>kS S lv s x&&kB S lv r xs
  | _,_=>false
end
structure ajD (X:Cx) (S:SI) (ex:aY→bM) (lv:Nat):Prop where
  si:zU X S ex
  loc:∀ (i:Nat) (x:Str),S.N[i]?=some x→S.fl[i]?=some true→Loc X.env.scope x
  lcl:∀ (i:Nat) (x:Str),S.N[i]?=some x→S.lc[i]?=some true→X.env.kindOf x=some .local
  fn:∀ x,X.fn x=true
  cls:∀ (k:Nat) (x:Str) (a:Addr),S.gl[k]?=some (x,.cls a)→S.gv[k]?=some true→PySem.W.excIn X.K a BMv "ValueError.__new__" = true∧(PySem.W.clsIn X.K a).isSome=true∧PySem.W.typeIn X.K (.ref a)=some (.type "type")∧PySem.W.subIn X.K (.ref a) (.type "BaseException")=some true
  l0:lv≠1→PassesOwn (model X.prog X.w) X.A X.env X.xe
  rz:lv=0→S.calm=true→Thr X ex
  stk:X.stack=X.env :: X.outer
  frm:X.env.frame=some X.env.locals
theorem axK {e:Expr} {t:Option Expr} {n:Nat} {env:Env} (h:a5G e=false):swapsWith e t n env=pure false:=by
  cases e <;> first | rfl | exact absurd (show true=false from h) (by decide)
theorem ajD.tr {X:Cx} {S:SI} {ex:aY→bM} {lv:Nat} (Q:ajD X S ex lv) (pn:List (Addr×Obj)) (EX:aY→bM):ajD (aG0 X pn EX) S EX 1 where
  si:=⟨Q.si.N,Q.si.nd,Q.si.vis,Q.si.ce,fun k x g h=>by
    obtain ⟨h1,h2,h3,h4⟩:=Q.si.gm k x g h
    refine ⟨h1,h2,h3,?_⟩
    cases g <;> exact h4,Q.si.hu,Q.si.cm,aXR pn EX⟩
  loc:=Q.loc
  lcl:=Q.lcl
  fn:=Q.fn
  cls:=Q.cls
  l0:=fun z=>absurd rfl z
  rz:=fun z=>absurd z (by decide)
  stk:=Q.stk
  frm:=Q.frm
theorem ajD.ha {X:Cx} {S:SI} {ex:aY→bM} {lv:Nat} (Q:ajD X S ex lv) (x:Addr):ajD (az2 X x) S.han NoX 2 where
  si:=⟨Q.si.N,Q.si.nd,Q.si.vis,Q.si.ce,fun k y g h=>by
    obtain ⟨h1,h2,h3,h4⟩:=Q.si.gm k y g h
    refine ⟨h1,h2,h3,?_⟩
    cases g with
    | fn sp n qt =>
      intro z
      have hq:qt=true:=z.resolve_right (show ¬ (false=true) by decide)
      subst hq
      obtain ⟨k,f,fd,ps,F,hr,r⟩:=h4 (.inl rfl)
      exact ⟨k,f,fd,ps,F,⟨(fun z=>nomatch z),hr.dp,hr.un⟩,r⟩
    | kl C sp dd=>exact fun z=>nomatch z
    | me C m sp dd=>exact fun z=>nomatch z
    | _=>exact h4,Q.si.hu,fun z=>absurd (show false=true from z) (by decide),aCQ⟩
  loc:=Q.loc
  lcl:=Q.lcl
  fn:=Q.fn
  cls:=Q.cls
  l0:=fun _=>PassesOwn.never
  rz:=fun z=>absurd z (by decide)
  stk:=Q.stk
  frm:=Q.frm
theorem as7 {S:SI} {k:Nat} {x:Str} (h:an6 S k x=true):∃ a,S.gl[k]?=some (x,.cls a):=by
  unfold an6 at h
  split at h
  · rename_i z a hg
    have:=beq_iff_eq.mp h;subst this
    exact ⟨a,hg⟩
  · exact bB h
theorem aHG {T:List (Str×GT)} {ex:aY→bM} {k:Nat} {x:Str} {a:Addr} {t:zQ} (h:T[k]?=some (x,.cls a)):aHE T ex k t=vZ ex a t:=by unfold aHE;rw [h]
theorem aHH {T:List (Str×GT)} {K:Fg} {k i:Nat} {x:Str} {a:Addr} {tb:(aY→bM)→cI} {th:cI} (h:T[k]?=some (x,.cls a)):aHF T K k i tb th=amP K a i tb th:=by unfold aHF;rw [h]
theorem aCW {X:Cx} {S:SI} {ex:aY→bM} {lv:Nat} (Q:ajD X S ex lv) {k:Nat} {e:CE} {es:CEs} {x:Str} {y:Expr} {ys:List Expr} {np cp pos:Pos} (h:kS S lv (.raise k e es) (.Raise (some (.Call (.Name x np) (y :: ys) [] cp)) none pos)=true) :
    PS3 X (.Raise (some (.Call (.Name x np) (y :: ys) [] cp)) none pos) (aHE S.gl ex k (aA (mE S.gl X.K ex e) (mA S.gl X.K ex es))):=by
  have h':(lv == 0&&S.calm&&!isStar y&&kE S e y&&kEs S es ys&&S.gv[k]? == some true&&an6 S k x)=true:=h
  simp only [Bool.and_eq_true,Bool.not_eq_true'] at h'
  obtain ⟨⟨⟨⟨⟨⟨h0,hcm⟩,h1⟩,h2⟩,h3⟩,hv⟩,h⟩:=h'
  have hv:=beq_iff_eq.mp hv
  obtain ⟨a,hg⟩:=as7 h
  rw [aHG hg]
  have l1:=Q.si.cm hcm
  have l2:=Q.rz (beq_iff_eq.mp h0) hcm
  obtain ⟨g1,g2,g3,g4,g5⟩:=Q.si.gl _ _ _ hg hv
  exact aFZ l1 PySem.F.excBase_ValueError (by decide) PySem.F.excBase_ValueError g1 g4 (Q.cls _ _ _ hg hv).1 l2 (abQ (rO Q.si e y h2) (okA Q.si es ys h3) (bQ h1)) g2 (bQ h1) (zT h3)
theorem aCX {X:Cx} {S:SI} {ex:aY→bM} {lv:Nat} (Q:ajD X S ex lv):∀ {is:List Nat} {es:List Expr},kTg.kNs S is es=true→Two (aNV X) es is
  | [],[],_ => .nil
  | [],_ :: _,h=>by exact bB h
  | _ :: _,[],h=>by exact bB h
  | i :: is,e :: es,h=>by
    cases e with
    | Name x p =>
      have h':(S.N[i]? == some x&&S.fl[i]? == some true&&kTg.kNs S is es)=true:=h
      simp only [Bool.and_eq_true] at h'
      have e1:=beq_iff_eq.mp h'.1.1
      exact .cons ⟨x,p,rfl,by rw [Q.si.N];exact e1,Q.loc i x e1 (beq_iff_eq.mp h'.1.2),.inl (Q.fn x)⟩ (aCX Q h'.2)
    | _=>exact bB h
theorem aUH {X:Cx} {S:SI} {ex:aY→bM} {lv:Nat} (Q:ajD X S ex lv):∀ {c:CTg} {e:Expr},aP2 S c=true→kTg S c e=true→PG3 X e (mG c)
  | .nm i,e,_,h=>by
    cases e with
    | Name x p =>
      have h':(S.N[i]? == some x&&S.fl[i]? == some true)=true:=h
      simp only [Bool.and_eq_true] at h'
      have e1:=beq_iff_eq.mp h'.1
      exact aNU Q.si.nd (by rw [Q.si.N];exact e1) (Q.loc i x e1 (beq_iff_eq.mp h'.2)) (.inl (Q.fn x))
    | _=>exact bB h
  | .tup is,e,hc,h=>by
    cases e with
    | Tuple es k p=>exact aTI Q.si.nd (Q.si.cm hc) (aCX Q h)
    | _=>exact bB h
theorem aYO {X:Cx} {S:SI} {ex:aY→bM} (Q:zU X S ex) {tg:Expr} {tt:Bool} (htt:tt=true→X.calm=true∧∃ es kt pt,tg = .Tuple es kt pt):∀ (c:CI) (e:Expr),kI S tt c e=true→PIS X tg e (mIS S.gl X.K ex c)
  | .any c,e,h=>aNX (rO Q c e h)
  | .aCL c,e,h=>by
    cases e with
    | Call f as ks p =>
      cases f with
      | Name r q =>
        cases as with
        | nil=>exact bB h
        | cons y yr =>
          cases yr with
          | cons _ _=>exact bB h
          | nil =>
            cases ks with
            | cons _ _=>exact bB h
            | nil =>
              have h':(r == ("range" : Str)&&ad0 S&&!isStar y&&kE S c y)=true:=h
              simp only [Bool.and_eq_true,Bool.not_eq_true'] at h'
              obtain ⟨⟨⟨h1,h2⟩,h3⟩,h4⟩:=h'
              have:=beq_iff_eq.mp h1;subst this
              obtain ⟨g1,g2⟩:=as5 Q h2
              exact aGF g1 g2 (abQ (rO Q c y h4) aB6 (bQ h3)) (bQ h3)
      | _=>exact bB h
    | _=>exact bB h
theorem aCY {e:Expr} (h:isTup e=true):∃ es kt pt,e = .Tuple es kt pt:=by
  cases e <;> first | exact ⟨_,_,_,rfl⟩ | exact bB h
mutual
theorem okS:∀ (c:CS) {X:Cx} {S:SI} {ex:aY→bM} {lv:Nat},ajD X S ex lv→∀ (st:Stmt),kS S lv c st=true→PS3 X st (mS S.gl X.K ex c)
  | .ret e,X,S,ex,lv,Q,st,h=>by
    cases st with
    | Return v p =>
      cases v with
      | some x=>exact aSZ (rO Q.si e x h)
      | none=>exact bB h
    | _=>exact bB h
  | .expr e,X,S,ex,lv,Q,st,h=>by
    cases st with
    | Expr x p =>
      have h':(!a5G x&&kE S e x)=true:=h
      simp only [Bool.and_eq_true,Bool.not_eq_true'] at h'
      exact aN2 (rO Q.si e x h'.2) (axK h'.1)
    | _=>exact bB h
  | .ifs t a b,X,S,ex,lv,Q,st,h=>by
    cases st with
    | If x y z p =>
      have h':(kT S t x&&kB S lv a y&&kB S lv b z)=true:=h
      simp only [Bool.and_eq_true] at h'
      exact aXM (okT Q.si t x h'.1.1) (okB a Q y h'.1.2) (okB b Q z h'.2)
    | _=>exact bB h
  | .set i e,X,S,ex,lv,Q,st,h=>by
    cases st with
    | Assign ts y p =>
      cases ts with
      | nil=>exact bB h
      | cons t r =>
        cases r with
        | cons _ _=>cases t <;> exact bB h
        | nil =>
          cases t with
          | Name x q =>
            have h':(S.N[i]? == some x&&S.fl[i]? == some true&&!a5G y&&kE S e y)=true:=h
            simp only [Bool.and_eq_true,Bool.not_eq_true'] at h'
            have e1:=beq_iff_eq.mp h'.1.1.1
            exact aT0 (i:=i) Q.si.nd (by rw [Q.si.N];exact e1) (Q.loc i x e1 (beq_iff_eq.mp h'.1.1.2)) (rO Q.si e y h'.2) (axK h'.1.2) (.inl (Q.fn x))
          | _=>exact bB h
    | _=>exact bB h
  | .azK k o e,X,S,ex,lv,Q,st,h=>by
    cases st with
    | Assign ts z p =>
      cases ts with
      | nil=>exact bB h
      | cons t r =>
        cases r with
        | cons _ _=>cases t <;> exact bB h
        | nil =>
          cases t with
          | Attribute x n q =>
            have h':(azI S k n&&!a5G z&&kE S o x&&kE S e z)=true:=h
            simp only [Bool.and_eq_true,Bool.not_eq_true'] at h'
            obtain ⟨y,C,hg⟩:=axI h'.1.1.1
            obtain ⟨_,_,_,g⟩:=Q.si.gm _ _ _ hg
            show PS3 X _ (aP0 S.gl k _ _)
            unfold aP0
            rw [hg]
            exact aO4 (rO Q.si o x h'.1.2) (rO Q.si e z h'.2) g.1 g.2 (axK h'.1.1.2)
          | _=>exact bB h
    | _=>exact bB h
  | .aCU o i e,X,S,ex,lv,Q,st,h=>by
    cases st with
    | Assign ts z p =>
      cases ts with
      | nil=>exact bB h
      | cons t r =>
        cases r with
        | cons _ _=>cases t <;> exact bB h
        | nil =>
          cases t with
          | Subscript x y q =>
            have h':(!isSlice y&&!a5G z&&kE S o x&&kE S i y&&kE S e z)=true:=h
            simp only [Bool.and_eq_true,Bool.not_eq_true'] at h'
            exact aO6 Q.si.hu (rO Q.si o x h'.1.1.2) (rO Q.si i y h'.1.2) (rO Q.si e z h'.2) (axK h'.1.1.1.2)
          | _=>exact bB h
    | _=>exact bB h
  | .raise k e es,X,S,ex,lv,Q,st,h=>by
    cases st with
    | Raise a b p =>
      cases a with
      | none=>exact bB h
      | some a =>
        cases a with
        | Call f as ks q =>
          cases f with
          | Name x np =>
            cases as with
            | nil=>exact bB h
            | cons y ys =>
              cases ks with
              | cons _ _=>exact bB h
              | nil =>
                cases b with
                | some _=>exact bB h
                | none=>exact aCW Q h
          | _=>exact bB h
        | _=>exact bB h
    | _=>exact bB h
  | .aCT k i b hb,X,S,ex,lv,Q,st,h=>by
    cases st with
    | Try y hs el fin p =>
      cases hs with
      | nil=>exact bB h
      | cons hd tl =>
        obtain ⟨ty,nm,suite,hp⟩:=hd
        cases tl with
        | cons _ _=>cases ty <;> first | exact bB h | (rename_i ty;cases ty <;> cases nm <;> cases suite <;> exact bB h)
        | nil =>
          cases ty with
          | none=>exact bB h
          | some ty =>
            cases ty with
            | Name x cp =>
              cases nm with
              | none=>exact bB h
              | some n =>
                cases suite with
                | nil=>exact bB h
                | cons z zs =>
                  cases el with
                  | cons _ _=>exact bB h
                  | nil =>
                    cases fin with
                    | cons _ _=>exact bB h
                    | nil =>
                      have h':(lv == 0&&S.calm&&S.N[i]? == some n&&S.lc[i]? == some true&&kB S 1 b y&&kB S.han 2 hb (z :: zs)&&S.gv[k]? == some true&&an6 S k x)=true:=h
                      simp only [Bool.and_eq_true] at h'
                      obtain ⟨⟨⟨⟨⟨⟨⟨h0,hcm⟩,h1⟩,h2⟩,h3⟩,h4⟩,hv⟩,h⟩:=h'
                      have hv:=beq_iff_eq.mp hv
                      obtain ⟨a,hg⟩:=as7 h
                      show PS3 X _ (aHF S.gl X.K k i (fun EX2=>mB S.gl X.K EX2 b) (mB S.gl X.K NoX hb))
                      rw [aHH hg]
                      have e1:=beq_iff_eq.mp h1
                      obtain ⟨g1,g2,g3,g4,g5⟩:=Q.si.gl _ _ _ hg hv
                      obtain ⟨c1,c2,c3,c4⟩:=Q.cls _ _ _ hg hv
                      exact aT4 (i:=i) (Q.si.cm hcm) Q.si.nd (by rw [Q.si.N];exact e1) (Q.lcl i n e1 (beq_iff_eq.mp h2)) Q.stk Q.frm g1 g4 c2 c3 c4 (fun pn EX=>okB b (Q.tr pn EX) y h3) (fun xx=>okB hb (Q.ha xx) (z :: zs) h4) g2
            | _=>exact bB h
    | _=>exact bB h
  | .aHD t b,X,S,ex,lv,Q,st,h=>by
    cases st with
    | While x y el p =>
      cases el with
      | cons _ _=>exact bB h
      | nil =>
        have h':(lv != 1&&kT S t x&&kB S lv b y)=true:=h
        simp only [Bool.and_eq_true] at h'
        exact aGG (Q.l0 (bne_iff_ne.mp h'.1.1)) (okT Q.si t x h'.1.2) (okB b Q y h'.2)
    | _=>exact bB h
  | .aHC ci tg b,X,S,ex,lv,Q,st,h=>by
    cases st with
    | For tgt it body el p =>
      cases el with
      | cons _ _=>exact bB h
      | nil =>
        have h':(lv != 1&&aP2 S tg&&!isSet it&&kTg S tg tgt&&kI S (isTup tgt&&S.calm) ci it&&kB S lv b body)=true:=h
        simp only [Bool.and_eq_true,Bool.not_eq_true'] at h'
        obtain ⟨⟨⟨⟨⟨h1,hg⟩,h2⟩,h3⟩,h4⟩,h5⟩:=h'
        exact aNY (Q.l0 (bne_iff_ne.mp h1)) (aYO Q.si (fun z=>by rw [Bool.and_eq_true] at z;exact ⟨Q.si.cm z.2,aCY z.1⟩) ci it h4) (aUH Q hg h3) (okB b Q body h5) (aKT h2)
    | _=>exact bB h
  | .pass,X,S,ex,lv,Q,st,h=>by
    cases st with
    | Pass _=>exact aN1
    | _=>exact bB h
theorem okB:∀ (c:CB) {X:Cx} {S:SI} {ex:aY→bM} {lv:Nat},ajD X S ex lv→∀ (st:List Stmt),kB S lv c st=true→aeP X st (mB S.gl X.K ex c)
  | .nil,X,S,ex,lv,Q,st,h=>by
    cases st with
    | nil=>exact aSX
    | cons _ _=>exact bB h
  | .cons s .nil,X,S,ex,lv,Q,st,h=>by
    match st,h with
    | [],h=>exact bB h
    | [x],h =>
      have h':(kS S lv s x&&kB S lv .nil [])=true:=h
      rw [Bool.and_eq_true] at h'
      exact aSY (okS s Q x h'.1)
    | x :: y :: ys,h =>
      have h':(kS S lv s x&&kB S lv .nil (y :: ys))=true:=h
      rw [Bool.and_eq_true] at h'
      exact bB h'.2
  | .cons s (.cons s' r),X,S,ex,lv,Q,st,h=>by
    match st,h with
    | [],h=>exact bB h
    | x :: ys,h =>
      have h':(kS S lv s x&&kB S lv (.cons s' r) ys)=true:=h
      rw [Bool.and_eq_true] at h'
      exact aMZ (okS s Q x h'.1) (okB (.cons s' r) Q ys h'.2)
end
end L4
namespace L4
open PySem PySem.Spec PyProof.Rows L2
def bN (R:oK):oK:=fun d G'=>∃ G0,Le G0 G'∧R d G0
def a87 (EX:bM):bM:=fun C G'=>∃ G0,Le G0 G'∧EX C G0
def spD (n m:Nat) (tb:bM→cI):zL:=fun ds G R EX=>ds.length=m∧tb (a87 EX) ⟨fun _ G'=>bN R .non G',bN R,fun _ _=>False,fun _ _=>False⟩ (aoB n ds) G
theorem bN.here {R:oK} {d:D} {G:Gp} (h:R d G):bN R d G:=⟨G,.refl G,h⟩
theorem a87.here {R:bM} {d:Addr} {G:Gp} (h:R d G):a87 R d G:=⟨G,.refl G,h⟩
theorem aCZ {K:Fg} {EX:bM} {E:XK} (h:UpX K EX E):UpX K (a87 EX) E:=fun C H' G' g ⟨G0,l,q⟩=>h C H' G0 (g.le l) q
theorem aHI {qt:Bool} {P:Program} {w:World} {K:Fg} {mg:Str→Option Value} {base:Heap} {x qual:Str} {st:Stmt} {f:Addr} {fd:FuncData} {N ps:List Str} {k:Nat} {tb:bM→cI} (F:Fun K x qual st f fd) (S:bI N ps (aB st))
    (hbody:∀ (cdv:Value) (A:Around) (outer:List Env) (s:Shared) (H:Hp) (E:XK) (EX:bM),oO qt k (A.deeper (envOfC qual (aB st) s.heap.objs.size f cdv))→UpX K EX E →
      aeP (cx1 qt P w K mg base N qual (aB st) f cdv A outer s H E) (aG st) (tb EX)):dH qt P w K mg base (tQ P w) (k+1) f fd ps (gB K (spD N.length ps.length tb)):=by
  refine (aN5 F S hbody).imp fun vs H Q E ⟨ds,G,R,EX,r,g,⟨hl,q⟩,kk,hE⟩=>?_
  exact ⟨ds,G,bN R,a87 EX,r,g,⟨hl,q⟩,fun v H' d G' r1 g1 ⟨G0,l,q⟩=>kk v H' d G0 r1 (g1.le l) q,aCZ hE⟩
def GTs (P:Program) (w:World) (K:Fg) (mg:Str→Option Value) (base:Heap) (k:Nat) (x:Str):GT→Prop
  | .con d=>∃ u v,mg x=some u∧RelV v u∧∀ H,RD K H d v
  | .cls a=>mg x=some (.ref a)∧PySem.W.excIn K a BMv "ValueError.__new__" = true∧(PySem.W.clsIn K a).isSome=true∧PySem.W.typeIn K (.ref a)=some (.type "type")∧PySem.W.subIn K (.ref a) (.type "BaseException")=some true
  | .fn sp n qt=>∃ f fd ps,dH qt P w K mg base (tQ P w) k f fd ps (gB K sp)∧mg x=some (.ref f)∧PySem.W.keepIn K (.ref f)=true∧Binds K fd ps []
  | .bf b=>mg x=none∧bootBuiltins x=some (axF b)
  | .bt n=>mg x=none∧bootBuiltins x=some (.type n)
  | .kl C sp dd=>∃ j f fd ps ds dvs,j+1=k∧Mk K C f∧dH false P w K mg base (tQ P w) j f fd ps (gB K sp)∧mg x=some (.ref C)∧Binds K fd ps ds∧Vals dvs ds∧∀ H,iG K H dd dvs
  | .me C m sp dd=>∃ f fd ps ds dvs,Cls K C∧Meth K C m f∧dH false P w K mg base (tQ P w) k f fd ps (gB K sp)∧Binds K fd ps ds∧Vals dvs ds∧∀ H,iG K H dd dvs
  | .fl C f=>Cls K C∧uU K C f
def aP3 (sc:Scope) (x:Str):Bool:=match sc.names.lookup x with
  | some .local=>true
  | some .cell=>true
  | _=>false
def aP4 (sc:Scope) (x:Str):Bool:=match sc.names.lookup x with
  | some .local=>true
  | _=>false
def aP5 (sc:Scope) (x:Str):Bool:=match sc.names.lookup x with
  | some .globalImplicit=>true
  | _=>false
def aP6 (sc:Scope) (x:Str):Bool:=match sc.names.lookup x with
  | some .cell=>true
  | _=>false
theorem aHJ {sc:Scope} {x:Str} (h:aP6 sc x=true):sc.names.lookup x=some .cell:=by
  unfold aP6 at h
  split at h
  · rename_i e;exact e
  · exact bB h
def fD (S:SI) (sc:Scope):Bool:=(List.range S.N.length).all (fun i=>match S.N[i]? with
    | none=>false
    | some x=>x != ("__debug__" : Str)&&x != ("__classdict__" : Str)&&(S.fl[i]? != some true || aP3 sc x)&&(S.lc[i]? != some true || aP4 sc x)&&(S.ce[i]? != some true || aP6 sc x)) &&
  (List.range S.gl.length).all (fun k=>match S.gl[k]? with
    | none=>false
    | some (y,_)=>(S.gv[k]? != some true || aP5 sc y)&&y != ("__debug__" : Str)&&y != ("__name__" : Str))
theorem aHK {sc:Scope} {x:Str} (h:aP3 sc x=true):Loc sc x:=by
  unfold aP3 at h
  split at h
  · rename_i e;exact .inl e
  · rename_i e;exact .inr e
  · exact bB h
theorem aHL {sc:Scope} {x:Str} (h:Loc sc x):Vis sc x:=h.elim .inl fun z => .inr (.inl z)
theorem aHM {sc:Scope} {x:Str} (h:aP4 sc x=true):sc.names.lookup x=some .local:=by
  unfold aP4 at h
  split at h
  · rename_i e;exact e
  · exact bB h
theorem aHN {sc:Scope} {x:Str} (h:aP5 sc x=true):sc.names.lookup x=some .globalImplicit:=by
  unfold aP5 at h
  split at h
  · rename_i e;exact e
  · exact bB h
theorem aiC {S:SI} {sc:Scope} (h:fD S sc=true) {i:Nat} {x:Str} (e:S.N[i]?=some x) :
    (x == ("__debug__" : Str))=false∧(x == ("__classdict__" : Str))=false∧(S.fl[i]?=some true→Loc sc x)∧(S.lc[i]?=some true→sc.names.lookup x=some .local)∧(S.ce[i]?=some true→sc.names.lookup x=some .cell):=by
  unfold fD at h
  rw [Bool.and_eq_true] at h
  have hi:i < S.N.length:=(List.getElem?_eq_some_iff.mp e).1
  have q:=List.all_eq_true.mp h.1 i (List.mem_range.mpr hi)
  rw [e] at q
  simp only [Bool.and_eq_true,bne_iff_ne,ne_eq,Bool.or_eq_true] at q
  obtain ⟨⟨⟨⟨q1,q2⟩,q3⟩,q4⟩,q5⟩:=q
  refine ⟨beq_eq_false_iff_ne.mpr q1,beq_eq_false_iff_ne.mpr q2,fun z=>?_,fun z=>?_,fun z=>?_⟩
  · rcases q3 with q | q
    · exact absurd z q
    · exact aHK q
  · rcases q4 with q | q
    · exact absurd z q
    · exact aHM q
  · rcases q5 with q | q
    · exact absurd z q
    · exact aHJ q
theorem aHO {S:SI} {sc:Scope} (h:fD S sc=true) {k:Nat} {x:Str} {g:GT} (e:S.gl[k]?=some (x,g)):(S.gv[k]?=some true→sc.names.lookup x=some .globalImplicit)∧(x == ("__debug__" : Str))=false∧x ≠ "__name__" := by
  unfold fD at h
  rw [Bool.and_eq_true] at h
  have q:=List.all_eq_true.mp h.2 k (List.mem_range.mpr (List.getElem?_eq_some_iff.mp e).1)
  rw [e] at q
  simp only [Bool.and_eq_true,bne_iff_ne,ne_eq,Bool.or_eq_true] at q
  exact ⟨fun z=>aHN (q.1.1.resolve_left fun n=>n z),beq_eq_false_iff_ne.mpr q.1.2,q.2⟩
theorem bG {qt:Bool} {P:Program} {w:World} {K:Fg} {mg:Str→Option Value} {base:Heap} {x qual:Str} {st:Stmt} {f:Addr} {fd:FuncData} {ps:List Str} {k:Nat} {S:SI} {c:CB} (F:Fun K x qual st f fd) (hS:bI S.N ps (aB st))
    (hc:S.calm=!qt) (hv:fD S (aB st)=true) (hk:kB S 0 c (aG st)=true) (hg:∀ (j:Nat) (y:Str) (g:GT),S.gl[j]?=some (y,g)→GTs P w K mg base k y g) :
    dH qt P w K mg base (tQ P w) (k+1) f fd ps (gB K (spD S.N.length ps.length fun EX=>mB S.gl K (fun _=>EX) c)):=by
  refine aHI F hS fun cdv A outer s H E EX hr hE=>?_
  refine okB c (X:=cx1 qt P w K mg base S.N qual (aB st) f cdv A outer s H E) (S:=S) (ex:=fun _=>EX) (lv:=0) ?_ (aG st) hk
  refine ⟨⟨rfl,hS.nd,fun i y e1 e2=>?_,fun i y e1 e2 => .inl ((aiC hv e1).2.2.2.2 e2),fun j y g e=>?_,hr.units,fun z=>hc.symm.trans z,aXP hE⟩,fun i y e1 e2=>?_,fun i y e1 e2=>?_,fun _=>rfl,fun j y a e _=>?_,fun _=>own1,fun _ _=>aXQ hE,rfl,rfl⟩
  · obtain ⟨a1,a2,a3,a4⟩:=aiC hv e1
    exact ⟨aHL (a3 e2),a1,a2⟩
  · obtain ⟨a1,a2,a3⟩:=aHO hv e
    have z:=hg j y g e
    refine ⟨a1,a2,a3,?_⟩
    cases g with
    | con d=>exact z
    | cls a=>exact ⟨z.1,z.2.1⟩
    | fn sp n q2 =>
      intro hz
      obtain ⟨f',fd',ps',F',m',k',b'⟩:=z
      refine ⟨k,f',fd',ps',F',⟨fun e=>hr.hd ?_,hr.dp,hr.un⟩,m',k',b'⟩
      have hs:S.calm=true:=hz.resolve_left (by rw [e];decide)
      rw [hc] at hs
      simpa using hs
    | bf b=>exact z
    | bt n=>exact z
    | kl C sp dd =>
      intro hs
      obtain ⟨j',f',fd',ps',ds,dvs,rfl,q1,q2,q3,q4,q5,q6⟩:=z
      rw [hc] at hs
      exact ⟨j',f',fd',ps',ds,dvs,q1,q2,⟨fun _=>hr.hd (by simpa using hs),hr.dp,hr.un⟩,q3,q4,q5,q6⟩
    | me C m sp dd =>
      intro hs
      obtain ⟨f',fd',ps',ds,dvs,q1,q2,q3,q4,q5,q6⟩:=z
      rw [hc] at hs
      exact ⟨k,f',fd',ps',ds,dvs,q1,q2,q3,⟨fun _=>hr.hd (by simpa using hs),hr.dp,hr.un⟩,q4,q5,q6⟩
    | fl C f=>exact z
  · exact (aiC hv e1).2.2.1 e2
  · exact (aiC hv e1).2.2.2.1 e2
  · have z:=hg j y _ e
    exact z.2
end L4
namespace L4
open PySem PySem.Spec PyProof.Rows L2
theorem gln {P:Str→GT→Prop}:∀ (j:Nat) (y:Str) (g:GT),([]:List (Str×GT))[j]?=some (y,g)→P y g:=fun j y g h=>by simp at h
theorem fC {P:Str→GT→Prop} {x:Str} {g:GT} {l:List (Str×GT)} (h:P x g) (r:∀ (j:Nat) (y:Str) (g:GT),l[j]?=some (y,g)→P y g):∀ (j:Nat) (y:Str) (g':GT),((x,g) :: l)[j]?=some (y,g')→P y g'
  | 0,y,g',e=>by simp at e;obtain ⟨e1,e2⟩:=e;subst e1;subst e2;exact h
  | j+1,y,g',e=>r j y g' (by simpa using e)
section
variable {P:Program} {w:World} {K:Fg} {mg:Str→Option Value} {base:Heap} {k:Nat} {x:Str}
theorem gcI {z:Int} (h:∃ t,mg x=some (.int z t)):GTs P w K mg base k x (.con (.int z)):=by
  obtain ⟨t,h⟩:=h
  exact ⟨_,.int z,h,⟨t,rfl⟩,fun _ => .int z⟩
end
end L4
namespace L4
open PySem PySem.Spec PyProof.Rows L2
theorem cD {K:Fg} {fd:FuncData} {ps:List Str} (h:∀ us:List Value,us.length=ps.length→bindArgs fd ⟨us,[]⟩=pure (ps.zip us)):Binds K fd ps []:=Binds.all h
theorem aHP {K:Fg} {fd:FuncData} {ps:List Str} {T:Addr} {oc u:Value} {od:Option Addr} {n:Nat} {sl:Array (Option Value)} (e:K.lookup T=some ⟨oc,od,.seq #[u] n,sl⟩)
    (h:∀ us:List Value,us.length=ps.length→∃ k:Option (Array Value)→Sem (List (Str×Value)),fd.defaults = .ref T∧bindArgs fd ⟨us,[]⟩=seqItems? fd.defaults >>= k∧k (some #[u])=pure (ps.zip us)):Binds K fd ps []:=fun s us hK hl=>by
  rw [List.append_nil] at hl ⊢
  obtain ⟨k,h0,h1,h2⟩:=h us hl
  exact PySem.W.binds_K hK h0 e rfl h1 h2
theorem aHQ {K:Fg} {fd:FuncData} {ps:List Str} {T:Addr} {oc u:Value} {od:Option Addr} {n:Nat} {sl:Array (Option Value)} (e:K.lookup T=some ⟨oc,od,.seq #[u] n,sl⟩)
    (h:∀ us:List Value,us.length+1=ps.length→∃ k:Option (Array Value)→Sem (List (Str×Value)),fd.defaults = .ref T∧bindArgs fd ⟨us,[]⟩=seqItems? fd.defaults >>= k∧k (some #[u])=pure (ps.zip (us++[u]))):Binds K fd ps [u]:=fun s us hK hl=>by
  obtain ⟨k,h0,h1,h2⟩:=h us (by simpa using hl)
  exact PySem.W.binds_K hK h0 e rfl h1 h2
end L4
namespace L5
open PySem PySem.Spec PyProof.Rows L2 L4
def onB (x:D) (f:Bool→Prop):Prop:=match x with
  | .bl k=>f k
  | _=>False
def onI (x:D) (f:Int→Prop):Prop:=match x with
  | .int k=>f k
  | _=>False
theorem aP7 {k:Bool} {f:Bool→Prop}:onB (.bl k) f=f k:=rfl
theorem aHR {k:Int} {f:Int→Prop}:onI (.int k) f=f k:=rfl
def gY (xs:List D):Prop:=xs.length≤sizeLine
theorem aP8:gY []=True:=eq_true (show 0≤sizeLine by decide)
theorem aP9 {a0:D}:gY [a0]=True:=eq_true (show 1≤sizeLine by decide)
theorem aPA {a0 a1:D}:gY [a0,a1]=True:=eq_true (show 2≤sizeLine by decide)
theorem aPB {a0 a1 a2:D}:gY [a0,a1,a2]=True:=eq_true (show 3≤sizeLine by decide)
theorem aPC {a0 a1 a2 a3:D}:gY [a0,a1,a2,a3]=True:=eq_true (show 4≤sizeLine by decide)
theorem aPD {a0 a1 a2 a3 a4:D}:gY [a0,a1,a2,a3,a4]=True:=eq_true (show 5≤sizeLine by decide)
theorem aPE {a0 a1 a2 a3 a4 a5:D}:gY [a0,a1,a2,a3,a4,a5]=True:=eq_true (show 6≤sizeLine by decide)
theorem aPF {a0 a1 a2 a3 a4 a5 a6:D}:gY [a0,a1,a2,a3,a4,a5,a6]=True:=eq_true (show 7≤sizeLine by decide)
theorem aPG {a0 a1 a2 a3 a4 a5 a6 a7:D}:gY [a0,a1,a2,a3,a4,a5,a6,a7]=True:=eq_true (show 8≤sizeLine by decide)
theorem aPH {a0 a1 a2 a3 a4 a5 a6 a7 a8:D}:gY [a0,a1,a2,a3,a4,a5,a6,a7,a8]=True:=eq_true (show 9≤sizeLine by decide)
theorem aHS {a0 a1 a2 a3 a4 a5 a6 a7 a8 a9:D}:gY [a0,a1,a2,a3,a4,a5,a6,a7,a8,a9]=True:=eq_true (show 10≤sizeLine by decide)
theorem aHT {a0 a1 a2 a3 a4 a5 a6 a7 a8 a9 a10:D}:gY [a0,a1,a2,a3,a4,a5,a6,a7,a8,a9,a10]=True:=eq_true (show 11≤sizeLine by decide)
theorem aHU {a0 a1 a2 a3 a4 a5 a6 a7 a8 a9 a10 a11:D}:gY [a0,a1,a2,a3,a4,a5,a6,a7,a8,a9,a10,a11]=True:=eq_true (show 12≤sizeLine by decide)
theorem aHV {a0 a1 a2 a3 a4 a5 a6 a7 a8 a9 a10 a11 a12:D}:gY [a0,a1,a2,a3,a4,a5,a6,a7,a8,a9,a10,a11,a12]=True:=eq_true (show 13≤sizeLine by decide)
theorem aHW {a0 a1 a2 a3 a4 a5 a6 a7 a8 a9 a10 a11 a12 a13:D}:gY [a0,a1,a2,a3,a4,a5,a6,a7,a8,a9,a10,a11,a12,a13]=True:=eq_true (show 14≤sizeLine by decide)
theorem aHX {a0 a1 a2 a3 a4 a5 a6 a7 a8 a9 a10 a11 a12 a13 a14:D}:gY [a0,a1,a2,a3,a4,a5,a6,a7,a8,a9,a10,a11,a12,a13,a14]=True:=eq_true (show 15≤sizeLine by decide)
theorem aHY {a0 a1 a2 a3 a4 a5 a6 a7 a8 a9 a10 a11 a12 a13 a14 a15:D}:gY [a0,a1,a2,a3,a4,a5,a6,a7,a8,a9,a10,a11,a12,a13,a14,a15]=True:=eq_true (show 16≤sizeLine by decide)
theorem aHZ {a0 a1 a2 a3 a4 a5 a6 a7 a8 a9 a10 a11 a12 a13 a14 a15 a16:D}:gY [a0,a1,a2,a3,a4,a5,a6,a7,a8,a9,a10,a11,a12,a13,a14,a15,a16]=True:=eq_true (show 17≤sizeLine by decide)
theorem aI0 {a0 a1 a2 a3 a4 a5 a6 a7 a8 a9 a10 a11 a12 a13 a14 a15 a16 a17:D}:gY [a0,a1,a2,a3,a4,a5,a6,a7,a8,a9,a10,a11,a12,a13,a14,a15,a16,a17]=True:=eq_true (show 18≤sizeLine by decide)
theorem aI1 {a0 a1 a2 a3 a4 a5 a6 a7 a8 a9 a10 a11 a12 a13 a14 a15 a16 a17 a18:D}:gY [a0,a1,a2,a3,a4,a5,a6,a7,a8,a9,a10,a11,a12,a13,a14,a15,a16,a17,a18]=True:=eq_true (show 19≤sizeLine by decide)
theorem aI2 {a0 a1 a2 a3 a4 a5 a6 a7 a8 a9 a10 a11 a12 a13 a14 a15 a16 a17 a18 a19:D}:gY [a0,a1,a2,a3,a4,a5,a6,a7,a8,a9,a10,a11,a12,a13,a14,a15,a16,a17,a18,a19]=True:=eq_true (show 20≤sizeLine by decide)
theorem aI3 {a0 a1 a2 a3 a4 a5 a6 a7 a8 a9 a10 a11 a12 a13 a14 a15 a16 a17 a18 a19 a20:D}:gY [a0,a1,a2,a3,a4,a5,a6,a7,a8,a9,a10,a11,a12,a13,a14,a15,a16,a17,a18,a19,a20]=True:=eq_true (show 21≤sizeLine by decide)
theorem aI4 {a0 a1 a2 a3 a4 a5 a6 a7 a8 a9 a10 a11 a12 a13 a14 a15 a16 a17 a18 a19 a20 a21:D}:gY [a0,a1,a2,a3,a4,a5,a6,a7,a8,a9,a10,a11,a12,a13,a14,a15,a16,a17,a18,a19,a20,a21]=True:=eq_true (show 22≤sizeLine by decide)
theorem aI5 {a0 a1 a2 a3 a4 a5 a6 a7 a8 a9 a10 a11 a12 a13 a14 a15 a16 a17 a18 a19 a20 a21 a22:D}:gY [a0,a1,a2,a3,a4,a5,a6,a7,a8,a9,a10,a11,a12,a13,a14,a15,a16,a17,a18,a19,a20,a21,a22]=True:=eq_true (show 23≤sizeLine by decide)
theorem aI6 {a0 a1 a2 a3 a4 a5 a6 a7 a8 a9 a10 a11 a12 a13 a14 a15 a16 a17 a18 a19 a20 a21 a22 a23:D}:gY [a0,a1,a2,a3,a4,a5,a6,a7,a8,a9,a10,a11,a12,a13,a14,a15,a16,a17,a18,a19,a20,a21,a22,a23]=True:=eq_true (show 24≤sizeLine by decide)
theorem aI7 {a0 a1 a2 a3 a4 a5 a6 a7 a8 a9 a10 a11 a12 a13 a14 a15 a16 a17 a18 a19 a20 a21 a22 a23 a24:D}:gY [a0,a1,a2,a3,a4,a5,a6,a7,a8,a9,a10,a11,a12,a13,a14,a15,a16,a17,a18,a19,a20,a21,a22,a23,a24]=True:=eq_true (show 25≤sizeLine by decide)
theorem aI8 {a0 a1 a2 a3 a4 a5 a6 a7 a8 a9 a10 a11 a12 a13 a14 a15 a16 a17 a18 a19 a20 a21 a22 a23 a24 a25:D}:gY [a0,a1,a2,a3,a4,a5,a6,a7,a8,a9,a10,a11,a12,a13,a14,a15,a16,a17,a18,a19,a20,a21,a22,a23,a24,a25]=True:=eq_true (show 26≤sizeLine by decide)
theorem aI9 {a0 a1 a2 a3 a4 a5 a6 a7 a8 a9 a10 a11 a12 a13 a14 a15 a16 a17 a18 a19 a20 a21 a22 a23 a24 a25 a26:D}:gY [a0,a1,a2,a3,a4,a5,a6,a7,a8,a9,a10,a11,a12,a13,a14,a15,a16,a17,a18,a19,a20,a21,a22,a23,a24,a25,a26]=True:=eq_true (show 27≤sizeLine by decide)
theorem aIA {a0 a1 a2 a3 a4 a5 a6 a7 a8 a9 a10 a11 a12 a13 a14 a15 a16 a17 a18 a19 a20 a21 a22 a23 a24 a25 a26 a27:D}:gY [a0,a1,a2,a3,a4,a5,a6,a7,a8,a9,a10,a11,a12,a13,a14,a15,a16,a17,a18,a19,a20,a21,a22,a23,a24,a25,a26,a27]=True:=eq_true (show 28≤sizeLine by decide)
theorem aIB {a0 a1 a2 a3 a4 a5 a6 a7 a8 a9 a10 a11 a12 a13 a14 a15 a16 a17 a18 a19 a20 a21 a22 a23 a24 a25 a26 a27 a28:D}:gY [a0,a1,a2,a3,a4,a5,a6,a7,a8,a9,a10,a11,a12,a13,a14,a15,a16,a17,a18,a19,a20,a21,a22,a23,a24,a25,a26,a27,a28]=True:=eq_true (show 29≤sizeLine by decide)
theorem aIC {a0 a1 a2 a3 a4 a5 a6 a7 a8 a9 a10 a11 a12 a13 a14 a15 a16 a17 a18 a19 a20 a21 a22 a23 a24 a25 a26 a27 a28 a29:D}:gY [a0,a1,a2,a3,a4,a5,a6,a7,a8,a9,a10,a11,a12,a13,a14,a15,a16,a17,a18,a19,a20,a21,a22,a23,a24,a25,a26,a27,a28,a29]=True:=eq_true (show 30≤sizeLine by decide)
section
variable {t u:cI} {F:oR} {ρ:aY} {G:Gp} {R:oK} {te ta tb tc:dX} {tt tt':TT3} {tA:zQ} {K:Fg}
theorem aUI:bL t u F ρ G=t { F with nx:=u F } ρ G:=rfl
theorem aPI:dY F ρ G=F.nx ρ G:=rfl
theorem aUJ:aFV F ρ G=F.bk ρ G:=rfl
theorem aPJ:aN0 F ρ G=F.ct ρ G:=rfl
theorem aPK:iY te F ρ G=te ρ G fun _ G1=>F.nx ρ G1:=rfl
theorem aUK:dZ te F ρ G=te ρ G F.rt:=rfl
theorem aPL:aN3 F ρ G=F.rt .non G:=rfl
theorem aUL:m7 tt t u F ρ G=tt ρ G fun b G1=>if b=true then t F ρ G1 else u F ρ G1:=rfl
theorem aUM {i:Nat}:oM i te F ρ G=te ρ G fun x G1=>F.nx (a3M ρ i x) G1:=rfl
theorem x_raise {EX:aY→bM} {C:Addr}:vZ EX C tA F ρ G=tA ρ G fun ds G1=>gY ds∧EX ρ C G1:=rfl
theorem aUN {C:Addr} {i:Nat} {bd:(aY→bM)→cI}:amP K C i bd t F ρ G=bd (fun ρ1 C' G1=>PySem.W.subIn K (.ref C') (.ref C)=some true∧∀ x,G1 x=none→t { nx:=fun ρ2 G2=>F.nx (a4Z ρ2 i) G2,rt:=F.rt,bk:=fun ρ2 G2=>F.bk (a4Z ρ2 i) G2,ct:=fun ρ2 G2=>F.ct (a4Z ρ2 i) G2 } (a3M ρ1 i (.ref x)) (aQ G1 x (.exn C'))) F ρ G:=rfl
theorem x_c {d:D}:bY d ρ G R=R d G:=rfl
theorem aPM {d:D}:aC 0 (some d :: ρ) G R=R d G:=rfl
theorem aPN {o:Option D} {n:Nat}:aC (n+1) (o :: ρ) G R=aC n ρ G R:=rfl
theorem aD0 {o:Option D} {d:D}:a3M (o :: ρ) 0 d=some d :: ρ:=rfl
theorem aD1 {o:Option D} {n:Nat} {d:D}:a3M (o :: ρ) (n+1) d=o :: a3M ρ n d:=rfl
theorem aD2 {o:Option D}:a4Z (o :: ρ) 0=none :: ρ:=rfl
theorem aD3 {o:Option D} {n:Nat}:a4Z (o :: ρ) (n+1)=o :: a4Z ρ n:=rfl
theorem aYQ {r:R3}:aN r ta tb ρ G R=ta ρ G fun x G1=>tb ρ G1 fun y G2=>r x y G2 R:=rfl
theorem aPO {Q:Bool→Gp→Prop}:bJ te ρ G Q=te ρ G fun x G1=>onB x fun k=>Q k G1:=rfl
theorem aID {r r':R3}:a1A r r' ta tb tc ρ G R=ta ρ G fun x G1=>tb ρ G1 fun y G2=>r x y G2 fun z G3=>onB z fun k=>if k=true then tc ρ G3 fun w G4=>r' y w G4 R else R (.bl false) G3:=by
  unfold a1A;congr 1;funext x G1;congr 1;funext y G2;congr 1;funext z G3
  cases z with
  | bl k=>cases k <;> rfl
  | _=>rfl
theorem aUO {Q:Bool→Gp→Prop}:awP tt tt' ρ G Q=tt ρ G fun c G1=>if c=true then tt' ρ G1 Q else Q false G1:=rfl
theorem aYR {Q:Bool→Gp→Prop}:acR tt tt' ρ G Q=tt ρ G fun c G1=>if c=true then Q true G1 else tt' ρ G1 Q:=rfl
theorem aUP {Q:Bool→Gp→Prop}:tK tt ρ G Q=tt ρ G fun c G1=>Q (!c) G1:=rfl
theorem aPP:tL ta tb ρ G R=ta ρ G fun x G1=>onB x fun k=>if k=true then tb ρ G1 R else R (.bl false) G1:=by
  unfold tL;congr 1;funext x G1
  cases x with
  | bl k=>cases k <;> rfl
  | _=>rfl
theorem aUQ:awQ ta tb ρ G R=ta ρ G fun x G1=>onB x fun k=>if k=true then R (.bl true) G1 else tb ρ G1 R:=by
  unfold awQ;congr 1;funext x G1
  cases x with
  | bl k=>cases k <;> rfl
  | _=>rfl
theorem aPQ:aiQ ta ρ G R=ta ρ G fun x G1=>onB x fun k=>R (.bl (!k)) G1:=rfl
theorem aUR:awV ta ρ G R=ta ρ G fun x G1=>onI x fun k=>R (.int (-k)) G1:=rfl
theorem aUS:aXE tt ta tb ρ G R=tt ρ G fun c G1=>if c=true then ta ρ G1 R else tb ρ G1 R:=rfl
theorem aUT {Q:List D→Gp→Prop}:aH ρ G Q=Q [] G:=rfl
theorem aPR {Q:List D→Gp→Prop}:aA te tA ρ G Q=te ρ G fun x G1=>tA ρ G1 fun xs G2=>Q (x :: xs) G2:=rfl
theorem aUU:a6Y tA ρ G R=tA ρ G fun xs G1=>gY xs∧R (.tup xs) G1:=rfl
theorem aUV:yH tA ρ G R=tA ρ G fun xs G1=>gY xs∧∀ p,G1 p=none→R (.ref p) (aQ G1 p (.lst xs)):=rfl
theorem aUW:abR ρ G R=∀ p,G p=none→R (.ref p) (aQ G p (.dU false [])):=rfl
theorem x_call {sp:zL} {ex:aY→bM}:aU sp ex tA ρ G R=tA ρ G fun ds G1=>sp ds G1 R (ex ρ):=rfl
theorem aYS {r:List D→Gp→oK→Prop}:qF r tA ρ G R=tA ρ G fun xs G1=>r xs G1 R:=rfl
theorem x_m {T:String} {r:RM3}:tM3 T r te tA ρ G R=te ρ G fun x G1=>alL T G1 x∧tA ρ G1 fun xs G2=>r x xs G2 R:=rfl
theorem aYT {T:String} {r:RM3}:aG5 T r te ρ G R=te ρ G fun x G1=>alL T G1 x∧r x [] G1 R:=rfl
theorem aIE {z:Str}:alL "str" G (.str z)=True:=eq_true rfl
theorem aIF {p:Addr}:alL "list" G (.ref p)=((bZ G p).isSome=true):=by unfold alL;simp
theorem aD4 {Q:Option Int→Gp→Prop}:aiR ρ G Q=Q none G:=rfl
theorem aPS {Q:Option Int→Gp→Prop}:auY te ρ G Q=te ρ G fun x G1=>onI x fun k=>Q (some k) G1:=rfl
theorem aIG {tl th:TO3}:aG4 te tl th ρ G R=te ρ G fun x G1=>tl ρ G1 fun lo G2=>th ρ G2 fun hi G3=>aTB x lo hi G3 R:=rfl
theorem aD5 {i j:Int}:nU (.int i) (.int j) G R=R (.int (i+j)) G:=rfl
theorem aD6 {xs ys:List D}:nU (.tup xs) (.tup ys) G R=(xs.length+ys.length≤sizeLine∧R (.tup (xs++ys)) G):=rfl
theorem aUX {i j:Int}:amN (.int i) (.int j) G R=R (.int (i - j)) G:=rfl
theorem aL0 {i j:Int}:acS (.int i) (.int j) G R=(aAQ i j∧R (.int (i * j)) G):=rfl
theorem aPT {i j:Int}:tM (.int i) (.int j) G R=(aLY i j∧R (.int (i / j)) G):=rfl
theorem aUY {i j:Int}:m6 (.int i) (.int j) G R=(0 < j∧R (.int (i % j)) G):=rfl
theorem aUZ {i j:Int}:acT (.int i) (.int j) G R=(aLZ i j∧R (.int (i ^ j.toNat)) G):=rfl
theorem x_lt {i j:Int}:aB7 (.int i) (.int j) G R=R (.bl (decide (i < j))) G:=rfl
theorem aYU {i j:Int}:ayX (.int i) (.int j) G R=R (.bl (decide (j < i))) G:=rfl
theorem x_ge {i j:Int}:aMU (.int i) (.int j) G R=R (.bl (decide (j≤i))) G:=rfl
theorem aYV {i j:Int}:ayY (.int i) (.int j) G R=R (.bl (decide (i≤j))) G:=rfl
theorem aPU {i j:Str}:ayY (.str i) (.str j) G R=R (.bl (!decide (j.cps.toList < i.cps.toList))) G:=rfl
theorem aIH {i j:Str}:aNH (.str i) (.str j) G R=R (.bl (!(Builtin.Str.occurrences j i 0 j.length 1).isEmpty)) G:=rfl
theorem avB {i j:Str}:aoH (.str i) (.str j) G R=R (.bl (!!(Builtin.Str.occurrences j i 0 j.length 1).isEmpty)) G:=rfl
theorem aII {i j:Int}:a5B (.int i) (.int j) G R=R (.bl (i == j)) G:=by
  show (aO 20 (.int i)=true∧aO 20 (.int j)=true∧_)=_
  simp [aO,eqP]
theorem aIJ {i j:Int}:aeT (.int i) (.int j) G R=R (.bl (!(i == j))) G:=by
  show (aO 20 (.int i)=true∧aO 20 (.int j)=true∧_)=_
  simp [aO,eqP]
theorem aIK {i j:Bool}:a5B (.bl i) (.bl j) G R=R (.bl (i == j)) G:=by
  show (aO 20 (.bl i)=true∧aO 20 (.bl j)=true∧_)=_
  simp [aO,eqP]
theorem aIL {i j:Bool}:aeT (.bl i) (.bl j) G R=R (.bl (!(i == j))) G:=by
  show (aO 20 (.bl i)=true∧aO 20 (.bl j)=true∧_)=_
  simp [aO,eqP]
theorem aIM {i j:Str}:a5B (.str i) (.str j) G R=R (.bl (i == j)) G:=by
  show (aO 20 (.str i)=true∧aO 20 (.str j)=true∧_)=_
  simp [aO,eqP]
theorem aIN {i j:Str}:aeT (.str i) (.str j) G R=R (.bl (!(i == j))) G:=by
  show (aO 20 (.str i)=true∧aO 20 (.str j)=true∧_)=_
  simp [aO,eqP]
theorem aIO {xs ys:List D}:a5B (.tup xs) (.tup ys) G R=(aO 20 (.tup xs)=true∧aO 20 (.tup ys)=true∧R (.bl (eqP (.tup xs) (.tup ys))) G):=rfl
theorem aIP {xs ys:List D}:aeT (.tup xs) (.tup ys) G R=(aO 20 (.tup xs)=true∧aO 20 (.tup ys)=true∧R (.bl (!eqP (.tup xs) (.tup ys))) G):=rfl
theorem aIQ {z:Str}:a83 [.str z] G R=(z.length≤sizeLine∧R (.int z.length) G):=rfl
theorem aIR {ds:List D}:a83 [.tup ds] G R=R (.int ds.length) G:=rfl
theorem aoW {q:Addr} {ds:List D} (h:bZ G q=some ds):a83 [.ref q] G R=R (.int ds.length) G:=by unfold a83;simp only [h]
theorem aV0 {i:Int}:aT8 [.int i] G R=R (.int (if i < 0 then -i else i)) G:=rfl
theorem aIS {b:Bool}:amT [.bl b] G R=R (.int (if b then 1 else 0)) G:=rfl
theorem aIT {b:Int}:amT [.int b] G R=R (.int b) G:=rfl
theorem avC {xs:List D} {i:Int} {d:D} (h:atI xs i=some d):tO (.tup xs) (.int i) G R=R d G:=by unfold tO;simp only [h]
theorem a88 {p:Addr} {xs:List D} {i:Int} {d:D} (e:bZ G p=some xs) (h:atI xs i=some d):tO (.ref p) (.int i) G R=R d G:=by unfold tO;simp only [e,h]
theorem aIU:az0 .non .non G R=R (.bl true) G:=rfl
theorem aIV {i j:Bool}:az0 (.bl i) (.bl j) G R=R (.bl (i == j)) G:=rfl
theorem azL {i j:Bool}:aeQ (.bl i) (.bl j) G R=R (.bl (!(i == j))) G:=rfl
theorem azM:aeQ .non .non G R=R (.bl false) G:=rfl
theorem as8:aF K [.non,.ty "int"] G R=R (.bl false) G:=by
  show ("int" ∈ cV∧R (.bl (L2.subB "NoneType" "int")) G)=_
  rw [show L2.subB "NoneType" "int" = false from by decide];simp [cV]
theorem aoX:aF K [.non,.ty "bool"] G R=R (.bl false) G:=by
  show ("bool" ∈ cV∧R (.bl (L2.subB "NoneType" "bool")) G)=_
  rw [show L2.subB "NoneType" "bool" = false from by decide];simp [cV]
theorem as9:aF K [.non,.ty "str"] G R=R (.bl false) G:=by
  show ("str" ∈ cV∧R (.bl (L2.subB "NoneType" "str")) G)=_
  rw [show L2.subB "NoneType" "str" = false from by decide];simp [cV]
theorem aoY:aF K [.non,.ty "list"] G R=R (.bl false) G:=by
  show ("list" ∈ cV∧R (.bl (L2.subB "NoneType" "list")) G)=_
  rw [show L2.subB "NoneType" "list" = false from by decide];simp [cV]
theorem alO:aF K [.non,.ty "tuple"] G R=R (.bl false) G:=by
  show ("tuple" ∈ cV∧R (.bl (L2.subB "NoneType" "tuple")) G)=_
  rw [show L2.subB "NoneType" "tuple" = false from by decide];simp [cV]
theorem aoZ:aF K [.non,.ty "dict"] G R=R (.bl false) G:=by
  show ("dict" ∈ cV∧R (.bl (L2.subB "NoneType" "dict")) G)=_
  rw [show L2.subB "NoneType" "dict" = false from by decide];simp [cV]
theorem avD {b:Bool}:aF K [(.bl b),.ty "int"] G R=R (.bl true) G:=by
  show ("int" ∈ cV∧R (.bl (L2.subB "bool" "int")) G)=_
  rw [show L2.subB "bool" "int" = true from by decide];simp [cV]
theorem asA {b:Bool}:aF K [(.bl b),.ty "bool"] G R=R (.bl true) G:=by
  show ("bool" ∈ cV∧R (.bl (L2.subB "bool" "bool")) G)=_
  rw [show L2.subB "bool" "bool" = true from by decide];simp [cV]
theorem avE {b:Bool}:aF K [(.bl b),.ty "str"] G R=R (.bl false) G:=by
  show ("str" ∈ cV∧R (.bl (L2.subB "bool" "str")) G)=_
  rw [show L2.subB "bool" "str" = false from by decide];simp [cV]
theorem asB {b:Bool}:aF K [(.bl b),.ty "list"] G R=R (.bl false) G:=by
  show ("list" ∈ cV∧R (.bl (L2.subB "bool" "list")) G)=_
  rw [show L2.subB "bool" "list" = false from by decide];simp [cV]
theorem ap0 {b:Bool}:aF K [(.bl b),.ty "tuple"] G R=R (.bl false) G:=by
  show ("tuple" ∈ cV∧R (.bl (L2.subB "bool" "tuple")) G)=_
  rw [show L2.subB "bool" "tuple" = false from by decide];simp [cV]
theorem asC {b:Bool}:aF K [(.bl b),.ty "dict"] G R=R (.bl false) G:=by
  show ("dict" ∈ cV∧R (.bl (L2.subB "bool" "dict")) G)=_
  rw [show L2.subB "bool" "dict" = false from by decide];simp [cV]
theorem asD {i:Int}:aF K [(.int i),.ty "int"] G R=R (.bl true) G:=by
  show ("int" ∈ cV∧R (.bl (L2.subB "int" "int")) G)=_
  rw [show L2.subB "int" "int" = true from by decide];simp [cV]
theorem ap1 {i:Int}:aF K [(.int i),.ty "bool"] G R=R (.bl false) G:=by
  show ("bool" ∈ cV∧R (.bl (L2.subB "int" "bool")) G)=_
  rw [show L2.subB "int" "bool" = false from by decide];simp [cV]
theorem asF {i:Int}:aF K [(.int i),.ty "str"] G R=R (.bl false) G:=by
  show ("str" ∈ cV∧R (.bl (L2.subB "int" "str")) G)=_
  rw [show L2.subB "int" "str" = false from by decide];simp [cV]
theorem ap2 {i:Int}:aF K [(.int i),.ty "list"] G R=R (.bl false) G:=by
  show ("list" ∈ cV∧R (.bl (L2.subB "int" "list")) G)=_
  rw [show L2.subB "int" "list" = false from by decide];simp [cV]
theorem alP {i:Int}:aF K [(.int i),.ty "tuple"] G R=R (.bl false) G:=by
  show ("tuple" ∈ cV∧R (.bl (L2.subB "int" "tuple")) G)=_
  rw [show L2.subB "int" "tuple" = false from by decide];simp [cV]
theorem ap3 {i:Int}:aF K [(.int i),.ty "dict"] G R=R (.bl false) G:=by
  show ("dict" ∈ cV∧R (.bl (L2.subB "int" "dict")) G)=_
  rw [show L2.subB "int" "dict" = false from by decide];simp [cV]
theorem asG {z:Str}:aF K [(.str z),.ty "int"] G R=R (.bl false) G:=by
  show ("int" ∈ cV∧R (.bl (L2.subB "str" "int")) G)=_
  rw [show L2.subB "str" "int" = false from by decide];simp [cV]
theorem ap4 {z:Str}:aF K [(.str z),.ty "bool"] G R=R (.bl false) G:=by
  show ("bool" ∈ cV∧R (.bl (L2.subB "str" "bool")) G)=_
  rw [show L2.subB "str" "bool" = false from by decide];simp [cV]
theorem asH {z:Str}:aF K [(.str z),.ty "str"] G R=R (.bl true) G:=by
  show ("str" ∈ cV∧R (.bl (L2.subB "str" "str")) G)=_
  rw [show L2.subB "str" "str" = true from by decide];simp [cV]
theorem ap5 {z:Str}:aF K [(.str z),.ty "list"] G R=R (.bl false) G:=by
  show ("list" ∈ cV∧R (.bl (L2.subB "str" "list")) G)=_
  rw [show L2.subB "str" "list" = false from by decide];simp [cV]
theorem alQ {z:Str}:aF K [(.str z),.ty "tuple"] G R=R (.bl false) G:=by
  show ("tuple" ∈ cV∧R (.bl (L2.subB "str" "tuple")) G)=_
  rw [show L2.subB "str" "tuple" = false from by decide];simp [cV]
theorem ap6 {z:Str}:aF K [(.str z),.ty "dict"] G R=R (.bl false) G:=by
  show ("dict" ∈ cV∧R (.bl (L2.subB "str" "dict")) G)=_
  rw [show L2.subB "str" "dict" = false from by decide];simp [cV]
theorem asI {xs:List D}:aF K [(.tup xs),.ty "int"] G R=R (.bl false) G:=by
  show ("int" ∈ cV∧R (.bl (L2.subB "tuple" "int")) G)=_
  rw [show L2.subB "tuple" "int" = false from by decide];simp [cV]
theorem ap7 {xs:List D}:aF K [(.tup xs),.ty "bool"] G R=R (.bl false) G:=by
  show ("bool" ∈ cV∧R (.bl (L2.subB "tuple" "bool")) G)=_
  rw [show L2.subB "tuple" "bool" = false from by decide];simp [cV]
theorem asJ {xs:List D}:aF K [(.tup xs),.ty "str"] G R=R (.bl false) G:=by
  show ("str" ∈ cV∧R (.bl (L2.subB "tuple" "str")) G)=_
  rw [show L2.subB "tuple" "str" = false from by decide];simp [cV]
theorem ap8 {xs:List D}:aF K [(.tup xs),.ty "list"] G R=R (.bl false) G:=by
  show ("list" ∈ cV∧R (.bl (L2.subB "tuple" "list")) G)=_
  rw [show L2.subB "tuple" "list" = false from by decide];simp [cV]
theorem alR {xs:List D}:aF K [(.tup xs),.ty "tuple"] G R=R (.bl true) G:=by
  show ("tuple" ∈ cV∧R (.bl (L2.subB "tuple" "tuple")) G)=_
  rw [show L2.subB "tuple" "tuple" = true from by decide];simp [cV]
theorem ap9 {xs:List D}:aF K [(.tup xs),.ty "dict"] G R=R (.bl false) G:=by
  show ("dict" ∈ cV∧R (.bl (L2.subB "tuple" "dict")) G)=_
  rw [show L2.subB "tuple" "dict" = false from by decide];simp [cV]
theorem yX {q C C':Addr} {b:Bool} (h:G q=some (.exn C)) (e:ExC K C) (k:PySem.W.kitOne K (.ref C) (.ref C')=some b) (z:R (.bl b) G):aF K [.ref q,.ref C'] G R:=by
  unfold aF
  simp only [exD,h]
  exact ⟨b,e,k,z⟩
theorem aIW {q C:Addr} {n:String} {b:Bool} (h:G q=some (.exn C)) (e:ExC K C) (k:PySem.W.kitOne K (.ref C) (.type n)=some b) (z:R (.bl b) G):aF K [.ref q,.ty n] G R:=by
  unfold aF
  simp only [exD,tyD,h]
  exact ⟨b,e,k,z⟩
end
theorem a3R {G:Gp} {p:Addr} {xs:List D} (h:G p=some (.lst xs)):bZ G p=some xs:=by unfold bZ;rw [h]
theorem a89 {G:Gp} {p:Addr} {xs:List D} (h:G p=some (.rol xs)):bZ G p=some xs:=by unfold bZ;rw [h]
theorem bT {G:Gp} {p:Addr} {xs:List D}:bZ (aQ G p (.lst xs)) p=some xs:=a3R aP
theorem aIX {R:oK} {d:D} {G G':Gp} (h:R d G) (l:Le G G'):bN R d G':=⟨G,l,h⟩
theorem aaF {b:Bool} {P Q:Prop} (h1:b=true→P) (h2:b=false→Q):if b=true then P else Q:=by
  cases b
  · exact h2 rfl
  · exact h1 rfl
def kn (G:Gp) (d:D):Prop:=(tyD G d).isSome=true
theorem aD7 {G:Gp} {q:Addr} (h:kn G (.ref q)):tyD G (.ref q)=some "list" ∨ tyD G (.ref q)=some "dict" := by
  unfold kn at h
  have e:tyD G (.ref q)=(match G q with
    | some (.lst _)=>some "list"
    | some (.rol _)=>some "list"
    | some (.dU _ _)=>some "dict"
    | _=>none):=rfl
  rw [e] at h ⊢
  split at h
  · exact .inl rfl
  · exact .inl rfl
  · exact .inr rfl
  · simp at h
theorem aD8 {G:Gp} {b:List D}:kn G (.tup b):=rfl
section
variable {G:Gp} {R:oK} {K:Fg} {q:Addr}
theorem avF {x:D} {T n:String} (e:tyD G x=some T) (hn:n∈cV):aF K [x,.ty n] G R=R (.bl (L2.subB T n)) G:=by
  show (match tyD G x with
    | some T=>n∈cV∧R (.bl (L2.subB T n)) G
    | none=>_)=_
  rw [e]
  exact propext ⟨fun h=>h.2,fun h=>⟨hn,h⟩⟩
theorem avG (h:kn G (.ref q)):aF K [.ref q,.ty "int"] G R=R (.bl false) G:=by
  rcases aD7 h with e | e <;> rw [avF e (by decide)] <;> rfl
theorem ad1 (h:kn G (.ref q)):aF K [.ref q,.ty "tuple"] G R=R (.bl false) G:=by
  rcases aD7 h with e | e <;> rw [avF e (by decide)] <;> rfl
theorem at0 {α:Type} {a:α} {xs:List α}:atI (a :: xs) 0=some a:=by
  unfold atI ixN
  simp
theorem atS {α:Type} {a:α} {xs:List α} {n:Nat}:atI (a :: xs) ((n+1:Nat):Int)=atI xs (n:Int):=by
  unfold atI ixN
  have h0:(0:Int)≤((n+1:Nat):Int):=by omega
  have h1:(0:Int)≤(n:Int):=by omega
  rw [if_pos h0,if_pos h1]
  by_cases h:n < xs.length
  · have a1:((n+1:Nat):Int) < ((a :: xs).length:Int):=by simp;omega
    have a2:(n:Int) < (xs.length:Int):=by omega
    rw [if_pos a1,if_pos a2]
    simp
  · have a1:¬ ((n+1:Nat):Int) < ((a :: xs).length:Int):=by simp;omega
    have a2:¬ (n:Int) < (xs.length:Int):=by omega
    rw [if_neg a1,if_neg a2]
    rfl
theorem a2Q {α:Type} {xs:List α} {n:Nat}:atI xs (n:Int)=xs[n]?:=by
  unfold atI ixN
  rw [if_pos (by omega)]
  by_cases h:n < xs.length
  · rw [if_pos (by omega)];simp
  · rw [if_neg (by omega)]
    simp at h
    simp [h]
theorem aIY {a:D} {xs:List D}:tO (.tup (a :: xs)) (.int 0) G R=R a G:=avC at0
theorem aIZ {a b:D} {xs:List D}:tO (.tup (a :: b :: xs)) (.int 1) G R=R b G:=avC (i:=((1:Nat):Int)) (by rw [atS,a2Q];rfl)
theorem aJ0 {a b c:D} {xs:List D}:tO (.tup (a :: b :: c :: xs)) (.int 2) G R=R c G:=avC (i:=((2:Nat):Int)) (by rw [atS,a2Q];rfl)
end
section
variable {G:Gp} {R:oK} {K:Fg} {q:Addr}
end
section
variable {G:Gp} {R:oK} {K:Fg}
theorem a5H {a b:Addr} {xs ys:List D} (h1:bZ G a=some xs) (h2:bZ G b=some ys) (s1:xs.all (aO 20)=true) (s2:ys.all (aO 20)=true):a5B (.ref a) (.ref b) G R=R (.bl (rN xs ys)) G:=by
  show eqG G (.ref a) (.ref b) (fun b=>R (.bl b) G)=_
  unfold eqG
  simp only [h1,h2,s1,s2,true_and]
theorem avH {a b:Addr} {xs ys:List D} (h1:bZ G a=some xs) (h2:bZ G b=some ys) (s1:xs.all (aO 20)=true) (s2:ys.all (aO 20)=true):aeT (.ref a) (.ref b) G R=R (.bl (!rN xs ys)) G:=by
  show eqG G (.ref a) (.ref b) (fun b=>R (.bl (!b)) G)=_
  unfold eqG
  simp only [h1,h2,s1,s2,true_and]
end
section
variable {G:Gp} {R:oK} {K:Fg} {i j:Int}
theorem aPV (h:-18446744073709551616 < i∧i < 18446744073709551616):acS (.int i) (.int j) G R=R (.int (i * j)) G:=by
  rw [aL0]
  exact propext ⟨fun z=>z.2,fun z=>⟨.inl ⟨by have:=h.1;omega,by have:=h.2;omega⟩,z⟩⟩
theorem aPW (h:-18446744073709551616 < j∧j < 18446744073709551616):acS (.int i) (.int j) G R=R (.int (i * j)) G:=by
  rw [aL0]
  exact propext ⟨fun z=>z.2,fun z=>⟨.inr ⟨by have:=h.1;omega,by have:=h.2;omega⟩,z⟩⟩
theorem aJ1 (h:0 < j∧j < 1073741824):tM (.int i) (.int j) G R=R (.int (i / j)) G:=by
  rw [aPT]
  exact propext ⟨fun z=>z.2,fun z=>⟨h,z⟩⟩
theorem aPX (h:0 < j):m6 (.int i) (.int j) G R=R (.int (i % j)) G:=by
  rw [aUY]
  exact propext ⟨fun z=>z.2,fun z=>⟨h,z⟩⟩
theorem aPY (h:0≤j∧j≤1000000∧i.natAbs < 18446744073709551616):acT (.int i) (.int j) G R=R (.int (i ^ j.toNat)) G:=by
  rw [aUZ]
  exact propext ⟨fun z=>z.2,fun z=>⟨⟨h.1,h.2.1,h.2.2⟩,z⟩⟩
end
section
variable {G:Gp} {R:oK} {K:Fg} {i j:Int}
theorem aD9 {α:Type} {xs:List α} {i:Int} (h0:0≤i) (h1:i < (xs.length:Int)):∃ d,atI xs i=some d∧d∈xs:=by
  obtain ⟨n,rfl⟩:=Int.eq_ofNat_of_zero_le h0
  have hn:n < xs.length:=by omega
  exact ⟨xs[n],by rw [a2Q];simp [hn],List.getElem_mem hn⟩
theorem apA {p:Addr} {xs:List D} (e:bZ G p=some xs) (h0:0≤i) (h1:i < (xs.length:Int)) (h:∀ d∈xs,R d G):tO (.ref p) (.int i) G R:=by
  obtain ⟨d,h2,h3⟩:=aD9 h0 h1
  rw [a88 e h2]
  exact h d h3
theorem all_nil {P:D→Prop}:∀ d∈([]:List D),P d:=fun _ h=>by simp at h
theorem all_cons {P:D→Prop} {a:D} {r:List D} (h1:P a) (h2:∀ d∈r,P d):∀ d∈a :: r,P d:=fun d h=>by
  rcases List.mem_cons.mp h with rfl | h
  · exact h1
  · exact h2 d h
end
def aYW (i:Nat) (x:D) (tb:cI) (F:oR) (ρ:aY) (G1:Gp):Prop:=match x with
  | .ref p=>(match bZ G1 p with
    | some xs=>∃ P:Nat→aY→Gp→Prop,P 0 ρ G1∧(∀ k ρ G,k≤xs.length→P k ρ G→bZ G p=some xs) ∧
        (∀ k d ρ G,xs[k]?=some d→P k ρ G→tb { F with nx:=P (k+1),ct:=P (k+1),bk:=F.nx } (a3M ρ i d) G)∧∀ ρ G,P xs.length ρ G→F.nx ρ G
    | none=>False)
  | _=>False
theorem aV1 {i:Nat} {te:dX} {tb:cI} {F:oR} {ρ:aY} {G:Gp}:aT1 i te tb F ρ G=te ρ G fun x G1=>aYW i x tb F ρ G1:=rfl
def aV2 (i:Nat) (xs:List D) (tb:cI) (F:oR) (ρ:aY) (G1:Gp):Prop:=match xs with
  | [.int j]=>-(2 ^ 62)≤j∧j < 2 ^ 62∧∃ P:Nat→aY→Gp→Prop,P 0 ρ G1∧(∀ k ρ G,k < j.toNat→P k ρ G→tb { F with nx:=P (k+1),ct:=P (k+1),bk:=F.nx } (a3M ρ i (.int k)) G)∧∀ ρ G,P j.toNat ρ G→F.nx ρ G
  | _=>False
theorem aPZ {i:Nat} {ta:zQ} {tb:cI} {F:oR} {ρ:aY} {G:Gp}:aN4 i ta tb F ρ G=ta ρ G fun xs G1=>aV2 i xs tb F ρ G1:=rfl
section
variable {P Q:Prop} {b c:Bool} {α:Type} {a:α} {l:List α}
theorem avI:(True∧P)=P:=true_and P
theorem avJ:(P∧True)=P:=and_true P
theorem avK:(P∧P)=P:=and_self P
theorem azN:(P∨True)=True:=or_true P
theorem azO:(True∨P)=True:=true_or P
theorem avL:(!true)=false:=rfl
theorem asK:(!false)=true:=rfl
theorem aDA:((!b)=true)=(b=false):=by cases b <;> simp
theorem azP:(if True then P else Q)=P:=if_true ..
theorem avM:(if False then P else Q)=Q:=if_false ..
theorem aV3:(false=true)=False:=by simp
theorem aV4:(true=false)=False:=by simp
theorem aQ0:(b=b)=True:=by simp
theorem avN:(a :: l).length=l.length+1:=List.length_cons
theorem azQ:([]:List α).length=0:=rfl
theorem azR {β:Type} {f:α→β}:(l.map f).length=l.length:=List.length_map ..
end
end L5
namespace L6
open PySem PySem.Spec PyProof.Rows L2 L4 L5
def aDB (x:D) (G:Gp) (Q:Src→Gp→Prop):Prop:=match x with
  | .ref p=>(match bZ G p with
    | some xs=>Q (.lst p xs) G
    | none=>False)
  | .tup xs=>Q (.imm xs) G
  | .str z=>Q (.imm (signs z)) G
  | _=>False
def axL (x:D) (G:Gp) (Q:Src→Gp→Prop):Prop:=match x with
  | .ref p=>(match bZ G p with
    | some xs=>Q (.lst p xs) G
    | none=>False)
  | .str z=>Q (.imm (signs z)) G
  | _=>False
def aL1 (xs:List D) (G:Gp) (Q:Src→Gp→Prop):Prop:=match xs with
  | [.int j]=>-(2 ^ 62)≤j∧j < 2 ^ 62∧Q (.imm (arF 0 j)) G
  | _=>False
def aL2 (xs:List D) (G:Gp) (Q:Src→Gp→Prop):Prop:=match xs with
  | [.int i,.int j]=>(-(2 ^ 62)≤i∧i < 2 ^ 62∧-(2 ^ 62)≤j∧j < 2 ^ 62)∧Q (.imm (arF i j)) G
  | _=>False
def aYX (xs:List D) (G:Gp) (Q:Src→Gp→Prop):Prop:=match xs with
  | [.ref p,.ref q]=>(match bZ G p,bZ G q with
    | some xs,some ys=>Q (.zip p q xs ys) G
    | _,_=>False)
  | _=>False
theorem aQ1 {te td:dX} {ρ:aY} {G:Gp} {R:oK}:aTS te td ρ G R=te ρ G fun x G1=>td ρ G1 fun d G2=>aC5 x d G2 R:=rfl
section
variable {te:dX} {ta:zQ} {ρ:aY} {G:Gp} {Q:Src→Gp→Prop} {p:Addr} {xs:List D} {z:Str} {i j:Int}
theorem aJ2:aiX te ρ G Q=te ρ G fun x G1=>aDB x G1 Q:=rfl
theorem aV5:aGE te ρ G Q=te ρ G fun x G1=>axL x G1 Q:=rfl
theorem aQ2:aiZ ta ρ G Q=ta ρ G fun xs G1=>aL1 xs G1 Q:=rfl
theorem aV6:aTR ta ρ G Q=ta ρ G fun xs G1=>aYX xs G1 Q:=rfl
theorem aQ3:aNN ta ρ G Q=ta ρ G fun xs G1=>aL2 xs G1 Q:=rfl
theorem ajE (h:bZ G p=some xs):aDB (.ref p) G Q=Q (.lst p xs) G:=by unfold aDB;simp only [h]
theorem aDC:aDB (.tup xs) G Q=Q (.imm xs) G:=rfl
theorem aDD:aDB (.str z) G Q=Q (.imm (signs z)) G:=rfl
theorem an7 (h:bZ G p=some xs):axL (.ref p) G Q=Q (.lst p xs) G:=by unfold axL;simp only [h]
theorem azS:axL (.str z) G Q=Q (.imm (signs z)) G:=rfl
theorem aJ3 (h:-4611686018427387904≤j∧j < 4611686018427387904):aL1 [.int j] G Q=Q (.imm (arF 0 j)) G:=by
  show (_∧_∧_)=_
  exact propext ⟨fun z=>z.2.2,fun z=>⟨by omega,by omega,z⟩⟩
theorem aJ4 (h:-4611686018427387904≤i∧i < 4611686018427387904∧-4611686018427387904≤j∧j < 4611686018427387904):aL2 [.int i,.int j] G Q=Q (.imm (arF i j)) G:=by
  show ((_∧_∧_∧_)∧_)=_
  exact propext ⟨fun z=>z.2,fun z=>⟨⟨by omega,by omega,by omega,by omega⟩,z⟩⟩
end
def aDE (dv:D→Option (List D)) (src:Src) (tc:TT3) (te:dX) (ρ:aY) (G1:Gp) (R:oK):Prop:=src.items.length < sizeLine∧∀ p,G1 p=none→∃ P:Nat→List D→Gp→Prop,P 0 [] (aQ G1 p (.lst [])) ∧
  (∀ k ds G,k≤src.items.length→P k ds G→src.ok G∧G p=some (.lst ds)∧ds.length≤k) ∧
  (∀ k d ds G,src.items[k]?=some d→P k ds G→∃ ys,dv d=some ys∧tc (ys.map some++ρ) G fun b G2=>if b=true then te (ys.map some++ρ) G2 fun y G3=>G3 p=some (.lst ds)∧P (k+1) (ds++[y]) (aQ G3 p (.lst (ds++[y]))) else P (k+1) ds G2) ∧
  ∀ ds G,P src.items.length ds G→∃ G0,Le G0 G∧R (.ref p) G0
theorem aQ4 {dv:D→Option (List D)} {ti:TI3} {tc:TT3} {te:dX} {ρ:aY} {G:Gp} {R:oK}:aoL dv ti tc te ρ G R=ti ρ G fun src G1=>aDE dv src tc te ρ G1 R:=rfl
theorem a5I {G G':Gp} (l:Le G G') {p:Addr} {xs:List D} (h:bZ G p=some xs):bZ G' p=some xs:=by
  unfold bZ at h ⊢
  split at h
  · rename_i e;rw [l _ _ e];exact h
  · rename_i e;rw [l _ _ e];exact h
  · cases h
theorem aV7 {G G':Gp} (l:Le G G') {src:Src} (h:src.ok G):src.ok G':=by
  cases src with
  | lst p xs=>exact a5I l h
  | imm xs=>trivial
  | zip p q xs ys=>exact ⟨a5I l h.1,a5I l h.2⟩
theorem aQ5 {G G':Gp} {p:Addr} {o o':GO} (l:Le (aQ G p o) G'):Le (aQ G p o') (aQ G' p o'):=fun a u e=>by
  by_cases h:a=p
  · subst h;rw [aP] at e ⊢;exact e
  · rw [dW h] at e ⊢
    exact l a u (by rw [dW h];exact e)
theorem aDF {dv:D→Option (List D)} {src:Src} {tc:TT3} {te:dX} {ρ:aY} {G:Gp} {R:oK} (v:D→List D) (c:D→Bool) (f:D→D) (hl:src.items.length < sizeLine) (hok:src.ok G) (hv:∀ d∈src.items,dv d=some (v d))
    (hc:∀ d∈src.items,∀ G',Le G G'→∀ Q:Bool→Gp→Prop,(∀ G'',Le G' G''→Q (c d) G'')→tc ((v d).map some++ρ) G' Q)
    (he:∀ d∈src.items,c d=true→∀ G',Le G G'→∀ Q:D→Gp→Prop,(∀ G'',Le G' G''→Q (f d) G'')→te ((v d).map some++ρ) G' Q)
    (h:∀ p,G p=none→R (.ref p) (aQ G p (.lst ((src.items.filter c).map f)))):aDE dv src tc te ρ G R:=by
  refine ⟨hl,fun p hp=>⟨fun k ds G'=>ds=((src.items.take k).filter c).map f∧Le (aQ G p (.lst ds)) G',⟨rfl,.refl _⟩,fun k ds G' hk ⟨e,l⟩=>?_,fun k d ds G' hd ⟨e,l⟩=>?_,fun ds G' ⟨e,l⟩=>?_⟩⟩
  · refine ⟨aV7 ((Le.new hp).trans l) hok,l p _ aP,?_⟩
    rw [e,List.length_map]
    exact Nat.le_trans (List.length_filter_le _ _) (by rw [List.length_take];omega)
  · have hm:d∈src.items:=List.mem_of_getElem? hd
    have ht:src.items.take (k+1)=src.items.take k++[d]:=by
      rw [List.take_succ,hd];rfl
    refine ⟨v d,hv d hm,hc d hm G' ((Le.new hp).trans l) _ fun G2 l2=>?_⟩
    cases hcd:c d with
    | true =>
      rw [if_pos rfl]
      refine he d hm hcd G2 (((Le.new hp).trans l).trans l2) _ fun G3 l3=>?_
      have l4:=(l.trans l2).trans l3
      refine ⟨l4 p _ aP,?_,aQ5 l4⟩
      rw [ht,List.filter_append,List.map_append,← e]
      simp [hcd]
    | false =>
      rw [if_neg (by decide)]
      refine ⟨?_,l.trans l2⟩
      rw [ht,List.filter_append,List.map_append,← e]
      simp [hcd]
  · rw [List.take_length] at e
    subst e
    exact ⟨_,l,h p hp⟩
theorem apB {src:Src} {tc:TT3} {te:dX} {ρ:aY} {G:Gp} {R:oK} (c:D→Bool) (f:D→D) (hl:src.items.length < sizeLine) (hok:src.ok G)
    (hc:∀ d∈src.items,∀ G',Le G G'→∀ Q:Bool→Gp→Prop,(∀ G'',Le G' G''→Q (c d) G'')→tc (some d :: ρ) G' Q)
    (he:∀ d∈src.items,c d=true→∀ G',Le G G'→∀ Q:D→Gp→Prop,(∀ G'',Le G' G''→Q (f d) G'')→te (some d :: ρ) G' Q)
    (h:∀ p,G p=none→R (.ref p) (aQ G p (.lst ((src.items.filter c).map f)))):aDE az6 src tc te ρ G R:=aDF (fun d=>[d]) c f hl hok (fun _ _=>rfl) hc he h
def aL3 (src:Src) (tg:TG3) (tb:cI) (F:oR) (ρ:aY) (G1:Gp):Prop:=∃ P:Nat→aY→Gp→Prop,P 0 ρ G1∧(∀ k ρ G,k≤src.items.length→P k ρ G→src.ok G) ∧
  (∀ k d ρ G,src.items[k]?=some d→P k ρ G→tg d ρ fun ρ2=>tb { F with nx:=P (k+1),ct:=P (k+1),bk:=F.nx } ρ2 G)∧∀ ρ G,P src.items.length ρ G→F.nx ρ G
theorem aQ6 {ti:TI3} {tg:TG3} {tb:cI} {F:oR} {ρ:aY} {G:Gp}:aoN ti tg tb F ρ G=ti ρ G fun src G1=>aL3 src tg tb F ρ G1:=rfl
theorem aJ5 {i:Nat} {d:D} {ρ:aY} {Q:aY→Prop}:aoM i d ρ Q=Q (a3M ρ i d):=rfl
theorem aQ7 {is:List Nat} {ds:List D} {ρ:aY} {Q:aY→Prop} (h:ds.length=is.length):arG is (.tup ds) ρ Q=Q (ag9 ρ is ds):=propext ⟨fun z=>z.2,fun z=>⟨h,z⟩⟩
theorem aJ6 {is:List Nat} {ρ:aY}:ag9 ρ is []=ρ:=by cases is <;> rfl
theorem axM {i:Nat} {is:List Nat} {d:D} {ds:List D} {ρ:aY}:ag9 ρ (i :: is) (d :: ds)=ag9 (a3M ρ i d) is ds:=rfl
theorem asL {tg:TG3} {tb:cI} {F:oR} {ρ:aY} {G:Gp} {q:Addr} {xs:List D} (P:Nat→aY→Gp→Prop) (h0:P 0 ρ G) (hs:∀ k ρ G,P k ρ G→bZ G q=some xs)
    (hb:∀ k d ρ G,xs[k]?=some d→P k ρ G→tg d ρ fun ρ2=>tb { F with nx:=P (k+1),ct:=P (k+1),bk:=F.nx } ρ2 G) (he:∀ ρ G,P xs.length ρ G→F.nx ρ G):aL3 (.lst q xs) tg tb F ρ G :=
  ⟨P,h0,fun k ρ G _ p=>hs k ρ G p,hb,he⟩
section
variable {G:Gp} {R:oK}
theorem aV8 {i j:Int}:aj1 [.int i,.int j] G R=R (.int (if j < i then j else i)) G:=rfl
theorem aV9 {i j:Int}:aBU [.int i,.int j] G R=R (.int (if i < j then j else i)) G:=rfl
theorem aVA {p b:Addr} {ds es:List D} (h:G p=some (.lst ds)) (h2:G b=some (.lst es)) (hl:ds.length+es.length≤sizeLine):nU (.ref p) (.ref b) G R=∀ q,G q=none→R (.ref q) (aQ G q (.lst (ds++es))):=by
  unfold nU
  simp only [h,h2,hl,true_and]
theorem aDG {ds:List D}:av0 [.tup ds] G R=∀ l,G l=none→R (.ref l) (aQ G l (.lst ds)):=rfl
end
section
variable {G:Gp} {R:oK} {F:oR} {ρ:aY}
theorem aQ8 {is:List Nat} {te:dX}:aO0 is te F ρ G=te ρ G fun d G1=>arG is d ρ fun ρ2=>F.nx ρ2 G1:=rfl
theorem aVB {i:Nat} {f:Int→Int→Int} {te:dX}:aTM i f te F ρ G=aC i ρ G fun x G0=>onN x fun a=>te ρ G0 fun y G1=>onN y fun b=>F.nx (a3M ρ i (.int (f a b))) G1:=rfl
theorem aVC {k:Int} {f:Int→Prop}:onN (.int k) f=f k:=rfl
theorem aJ7 {a b:Int}:aUE false a b=a+b:=rfl
theorem aJ8 {a b:Int}:aUE true a b=a - b:=rfl
theorem aJ9 {xs ys:List D}:aKC (.tup xs) (.tup ys) G R=(aBX G xs ys=true∧R (.bl (aBY G xs ys)) G):=rfl
theorem aJA {xs ys:List D}:aKD (.tup xs) (.tup ys) G R=(aBX G xs ys=true∧R (.bl (!aBY G xs ys)) G):=rfl
theorem aVD {C:Addr} {t:zQ}:ax0 C t ρ G R=t ρ G fun ds G1=>ds.length≤sizeLine∧∀ x,G1 x=none→R (.ref x) (aQ G1 x (.exn C)):=rfl
end
end L6
namespace L7
open PySem PySem.Spec PyProof.Rows L2 L4 L5 L6
section
variable {ρ:aY} {G:Gp} {R:oK} {F:oR} {p:Addr}
theorem aQ9 {ta:zQ} {Q:Src→Gp→Prop}:aOG ta ρ G Q=ta ρ G fun xs G1=>aKH xs G1 Q:=rfl
theorem aVE {te:dX} {tk:TO3}:aTZ te tk ρ G R=te ρ G fun x G1=>tk ρ G1 fun o G2=>o=some (-1)∧aKI x G2 R:=rfl
theorem aVF {i:Nat} {t:cI}:aU3 i t F ρ G=t { nx:=fun ρ G=>F.nx (a4Z ρ i) G,rt:=F.rt,bk:=fun ρ G=>F.bk (a4Z ρ i) G,ct:=fun ρ G=>F.ct (a4Z ρ i) G } (a4Z ρ i) G:=rfl
theorem aQA:aaB ρ G R=∀ p,G p=none→R (.ref p) (aQ G p (.dU true [])):=rfl
theorem aQB {to ti tv:dX}:aj6 to ti tv F ρ G=tv ρ G fun v G1=>to ρ G1 fun x G2=>ti ρ G2 fun y G3=>ax4 x y v F ρ G3:=rfl
end
end L7
namespace L8
open PySem PySem.Spec PyProof.Rows L2 L4 L5 L6 L7
section
variable {ρ:aY} {G:Gp} {R:oK} {F:oR} {p C:Addr} {f m:Str} {fs:List (Str×D)}
theorem aVG {ta:dX}:uK C ta f ρ G R=ta ρ G fun x G1=>aC2 C f x G1 R:=rfl
theorem oU {d:D} (h:G p=some (.ins C fs)) (e:fs.lookup f=some d):aC2 C f (.ref p) G R=R d G:=by
  unfold L2.aC2
  simp only [h,e]
  exact propext ⟨fun z=>z.2,fun z=>⟨trivial,z⟩⟩
theorem aQC {ta tv:dX}:aeX C ta tv f F ρ G=tv ρ G fun y G1=>ta ρ G1 fun x G2=>arL C f x y F ρ G2:=rfl
theorem apC {y:D} (h:G p=some (.ins C fs)) (hl:fs.length < 1000):arL C f (.ref p) y F ρ G=F.nx ρ (aQ G p (.ins C (arK f y fs))):=by
  unfold L2.arL
  simp only [h]
  exact propext ⟨fun z=>z.2.2,fun z=>⟨trivial,hl,z⟩⟩
theorem gC (h:G p=some (.ins C fs)) (e:fs.lookup m=none):arN C m (.ref p) G=True:=eq_true ⟨p,fs,rfl,h,e⟩
theorem aJB {sp:zL} {dd:List D} {EX:aY→bM} {ta:dX} {t:zQ}:nA C m sp dd EX ta t ρ G R=ta ρ G fun x G1=>arN C m x G1∧t ρ G1 fun ds G2=>sp (x :: (ds++dd)) G2 R (EX ρ):=rfl
theorem aJC {sp:zL} {dd:List D} {EX:aY→bM} {t:zQ}:aeY C sp dd EX t ρ G R=t ρ G fun ds G1=>∀ x,G1 x=none→sp (.ref x :: (ds++dd)) (aQ G1 x (.ins C [])) (fun v G2=>v = .non∧R (.ref x) G2) (EX ρ):=rfl
theorem aYY {r:RM3} {to:dX} {t:zQ}:av6 r to t ρ G R=to ρ G fun x G1=>a2O x G1∧t ρ G1 fun xs G2=>r x xs G2 R:=rfl
theorem aJD {to te tf:dX}:a1B to te tf ρ G R=to ρ G fun x G1=>a2O x G1∧te ρ G1 fun y G2=>tf ρ G2 fun z G3=>uL x y G3 fun _ _ kvs k=>R ((bD kvs k).getD z) G3:=rfl
theorem qU {t:Bool} {kvs:List (DK×D)} (h:G p=some (.dU t kvs)):a2O (.ref p) G=True:=by
  unfold L2.a2O
  simp only [h]
theorem oW {t:Bool} {kvs:List (DK×D)} {y:D} {k:DK} {P:Addr→Bool→List (DK×D)→DK→Prop} (h:G p=some (.dU t kvs)) (hk:ahL y=some k) (ht:a85 k=t):uL (.ref p) y G P=P p t kvs k:=by
  unfold L2.uL
  simp only [h,hk]
  exact propext ⟨fun z=>z.2,fun z=>⟨ht,z⟩⟩
theorem ad2 {t:Bool} {kvs:List (DK×D)} {y d:D} {k:DK} (h:G p=some (.dU t kvs)) (hk:ahL y=some k) (ht:a85 k=t) (e:bD kvs k=some d):a5E (.ref p) y G R=R d G:=by
  unfold L2.a5E
  rw [oW h hk ht]
  simp only [e]
theorem axN {kvs:List (DK×D)} (h:G p=some (.dU false kvs)):af0 [.ref p] G R=R (.int kvs.length) G:=by
  unfold L2.af0
  simp only [h]
end
end L8
namespace L9
open PySem PySem.Spec PyProof.Rows L2 L4 L5 L6 L7 L8
section
variable {ρ:aY} {G:Gp} {R:oK} {F:oR} {p:Addr}
abbrev ky (a p:Int):List Key:=[.inl a,.inl p]
theorem aJE {to:dX}:acZ to ρ G R=to ρ G fun x G1=>a1C x G1 R:=rfl
theorem aQD {to:dX}:aoU to ρ G R=to ρ G fun x G1=>a86 x G1 R:=rfl
theorem aQE {t:Bool} {tk tv:dX}:ajA t tk tv ρ G R=∀ p,G p=none→tk ρ (aQ G p (.dU t [])) fun y G1=>tv ρ G1 fun v G2=>uL (.ref p) y G2 fun a t' kvs k=>kvs.length < sizeLine∧R (.ref p) (aQ G2 a (.dU t' (oN kvs k v))):=rfl
theorem z7 {a q:Int}:ahL (.tup [.int a,.int q])=some (.inr (ky a q)):=rfl
theorem wQ {i:Int}:ahL (.int i)=some (.inl (.inl i)):=rfl
theorem a5J {k:List Key}:∀ {M:List (List Key×Addr)},bD (M.map ktD) (.inr k)=(bD M k).map D.ref
  | []=>rfl
  | z :: M=>by
    rw [List.map_cons]
    unfold bD
    by_cases c:z.1=k
    · rw [if_pos c,if_pos (by show (Sum.inr z.1:DK)=_;rw [c])]
      rfl
    · rw [if_neg c,if_neg (show ¬ (ktD z).1=Sum.inr k from fun e=>c (w5 _ _ e))]
      exact a5J
theorem a5K {i:Int}:∀ {ps:List (Int×Int)},bD (ps.map kpD) (.inl (.inl i))=(bD ps i).map D.int
  | []=>rfl
  | z :: M=>by
    rw [List.map_cons]
    unfold bD
    by_cases c:z.1=i
    · rw [if_pos c,if_pos (by show (Sum.inl (Sum.inl z.1):DK)=_;rw [c])]
      rfl
    · rw [if_neg c,if_neg (show ¬ (kpD z).1=Sum.inl (Sum.inl i) from fun e=>c (by have:=yZ _ _ e;injection this))]
      exact a5K
theorem aJF {i v:Int} {ps:List (Int×Int)}:oN (ps.map kpD) (.inl (.inl i)) (.int v)=(oN ps i v).map kpD:=by
  unfold oN
  rw [a5K,Option.isSome_map]
  split
  · rw [List.map_map,List.map_map]
    refine List.map_congr_left fun z _=>?_
    show (if (Sum.inl (Sum.inl z.1):DK)=_ then _ else _)=kpD (if z.1=i then (z.1,v) else z)
    by_cases c:z.1=i
    · rw [if_pos c,if_pos (by rw [c])];rfl
    · rw [if_neg c,if_neg (fun e=>c (by have:=yZ _ _ e;injection this))]
  · rw [List.map_append];rfl
theorem aDH {i:Int} {ps:List (Int×Int)}:tR (ps.map kpD) (.inl (.inl i))=(tR ps i).map kpD:=by
  unfold tR
  rw [List.filter_map]
  congr 1
  refine List.filter_congr fun z _=>?_
  show (!decide ((Sum.inl (Sum.inl z.1):DK) = .inl (.inl i)))=_
  by_cases c:z.1=i
  · rw [c];simp
  · rw [decide_eq_false c,decide_eq_false (fun e=>c (by have:=yZ _ _ e;injection this))]
theorem aDI {k:List Key} {M:List (List Key×Addr)}:tR (M.map ktD) (.inr k)=(tR M k).map ktD:=by
  unfold tR
  rw [List.filter_map]
  congr 1
  refine List.filter_congr fun z _=>?_
  show (!decide ((Sum.inr z.1:DK) = .inr k))=_
  by_cases c:z.1=k
  · rw [c];simp
  · rw [decide_eq_false c,decide_eq_false (fun e=>c (w5 _ _ e))]
theorem aDJ {κ α:Type} [DecidableEq κ] {kvs:List (κ×α)} {k:κ} {v:α} (h:bD kvs k=none):oN kvs k v=kvs++[(k,v)]:=by
  unfold oN
  rw [h]
  rfl
theorem aJG {y z:D} {k:DK} {kvs:List (DK×D)} (h:G p=some (.dU true kvs)) (hk:ahL y=some k) (ht:a85 k=true) (hl:kvs.length < sizeLine) (e:bD kvs k=none):aj7 (.ref p) [y,z] G R=R z (aQ G p (.dU true (kvs++[(k,z)]))):=by
  unfold L2.aj7
  simp only
  rw [oW h hk ht]
  simp only [e,aDJ e]
  exact propext ⟨fun w=>w.2.2,fun w=>⟨trivial,hl,w⟩⟩
theorem aJH {y z d:D} {k:DK} {kvs:List (DK×D)} (h:G p=some (.dU true kvs)) (hk:ahL y=some k) (ht:a85 k=true) (hl:kvs.length < sizeLine) (e:bD kvs k=some d):aj7 (.ref p) [y,z] G R=R d G:=by
  unfold L2.aj7
  simp only
  rw [oW h hk ht]
  simp only [e]
  exact propext ⟨fun w=>w.2.2,fun w=>⟨trivial,hl,w⟩⟩
theorem axO {t:Bool} {y d:D} {k:DK} {kvs:List (DK×D)} (h:G p=some (.dU t kvs)) (hk:ahL y=some k) (ht:a85 k=t) (e:bD kvs k=some d):aeZ (.ref p) [y] G R=R d (aQ G p (.dU t (tR kvs k))):=by
  unfold L2.aeZ
  simp only
  rw [oW h hk ht]
  simp only [e]
theorem axP {t:Bool} {y v:D} {k:DK} {kvs:List (DK×D)} (h:G p=some (.dU t kvs)) (hk:ahL y=some k) (ht:a85 k=t) (hl:kvs.length < sizeLine):ax4 (.ref p) y v F ρ G=F.nx ρ (aQ G p (.dU t (oN kvs k v))):=by
  unfold L2.ax4
  rw [oW h hk ht]
  exact propext ⟨fun w=>w.2,fun w=>⟨hl,w⟩⟩
theorem aQF {t:Bool} {y:D} {k:DK} {kvs:List (DK×D)} (h:G p=some (.dU t kvs)) (hk:ahL y=some k) (ht:a85 k=t):arQ y (.ref p) G R=R (.bl (bD kvs k).isSome) G:=by
  unfold L2.arQ
  rw [oW h hk ht]
theorem asM {ps:List (Int×Int)} (h:G p=some (.dU false (ps.map kpD))) (hl:ps.length < 2) (k:∀ qs:List (Int×Int),qs.Perm ps→tU qs→∀ r,G r=none→R (.ref r) (aQ G r (.lst (qs.map prV)))):a1C (.ref p) G R:=by
  unfold L2.a1C
  simp only [h]
  exact ⟨ps,rfl,hl,k⟩
theorem aJI {ps:List (Int×Int)} (h:G p=some (.dU false (ps.map kpD))) (k:R (.int (ps.map (·.2)).sum) G):a86 (.ref p) G R:=by
  unfold L2.a86
  simp only [h]
  exact ⟨ps,rfl,k⟩
theorem asN {kvs:List (DK×D)} {ps:List (Int×Int)} (h:G p=some (.dU true kvs)) (e:(kvs.map fun q=>dkD q.1)=ps.map prV) (nd:ps.Nodup) (hl:ps.length < 2) (k:∀ qs:List (Int×Int),qs.Perm ps→tU qs→∀ r,G r=none→R (.ref r) (aQ G r (.lst (qs.map prV)))):z6 [.ref p] G R:=by
  unfold L2.z6
  simp only [h]
  exact ⟨ps,e,nd,hl,k⟩
theorem axQ {neg:Bool} {q:Addr} {M N:List (List Key×Addr)} {c:Addr→List (Int×Int)} (h:G p=some (.dU true (M.map ktD))) (h2:G q=some (.dU true (N.map ktD))) (hc:∀ z∈M++N,G z.2=some (.dU false ((c z.2).map kpD))) (k:R (.bl (neg ^^ eqT c M N)) G):aj9 neg (.ref p) (.ref q) G R := .inr ⟨p,q,M,N,c,rfl,rfl,h,h2,hc,k⟩
theorem azT {q:Addr} {ds:List D} {b:Bool} (h:bZ G q=some ds) (ha:ds.all az8=true) (j:Nat) (hj:ds[j]?=some (.bl b)) (hn:∀ m,m < j→ds[m]?≠some (.bl b)) (k:R (.int j) G):a3P (.ref q) [.bl b] G R:=by
  unfold L2.a3P
  simp only [h]
  exact ⟨ha,j,hj,hn,k⟩
theorem ajF {α:Type} {qs:List α} {x:α} (h:qs.Perm [x]):qs=[x]:=List.perm_singleton.mp h
theorem axR {α:Type} {qs:List α} (h:qs.Perm []):qs=[]:=List.perm_nil.mp h
end
end L9
namespace Law
open PySem PySem.Spec PyProof.Rows L2 L4
def top (i:Nat):Stmt:=PySem.Challenge.pw_depot_k21_put_and_taken.main.body.getD i (.Pass ⟨0,0,0,0⟩)
abbrev tV:Stmt:=top 0
abbrev jB:Stmt:=top 13
abbrev m9:Stmt:=top 14
abbrev gH:Stmt:=top 15
abbrev mD:Stmt:=top 18
abbrev gJ:Stmt:=top 19
abbrev oX:Stmt:=top 20
abbrev jC:Stmt:=top 22
abbrev jD:Stmt:=top 23
abbrev d9:Stmt:=top 24
abbrev oY:Stmt:=top 27
abbrev jE:Stmt:=top 28
abbrev bK:Stmt:=inClass (top 29) 0
abbrev bU:Stmt:=inClass (top 29) 6
abbrev bC:Stmt:=inClass (top 29) 10
abbrev dB:Stmt:=inClass (top 29) 1
abbrev bV:Stmt:=inClass (top 29) 4
abbrev aZ:Stmt:=inClass (top 29) 9
abbrev cN:Stmt:=inClass (top 29) 2
abbrev cG:Stmt:=inClass (top 29) 3
abbrev cO:Stmt:=inClass (top 29) 5
abbrev bW:Stmt:=inClass (top 29) 7
abbrev cH:Stmt:=inClass (top 29) 8
abbrev cP:Stmt:=top 31
abbrev eF:Stmt:=top 32
abbrev gK:Stmt:=top 33
abbrev gM:Stmt:=top 34
abbrev dD:Stmt:=top 35
abbrev gO:Stmt:=top 36
abbrev jF:Stmt:=top 37
abbrev eG:Stmt:=top 38
abbrev a8A:Stmt:=top 39
structure c7 where
  a5L:Addr
  apD:FuncData
  rP:Addr
  abU:FuncData
  uW:Addr
  af6:FuncData
  oZ:Addr
  a8B:FuncData
  uX:Addr
  af7:FuncData
  p7:Addr
  a8C:FuncData
  zW:Addr
  ajG:FuncData
  rQ:Addr
  abV:FuncData
  rR:Addr
  abW:FuncData
  lO:Addr
  a2R:FuncData
  zX:Addr
  ajH:FuncData
  rT:Addr
  abX:FuncData
  cF:Addr
  nC:FuncData
  fM:Addr
  uY:FuncData
  cW:Addr
  qO:FuncData
  lQ:Addr
  a2S:FuncData
  fO:Addr
  uZ:FuncData
  cQ:Addr
  p8:FuncData
  jG:Addr
  zY:FuncData
  iH:Addr
  xU:FuncData
  jH:Addr
  zZ:FuncData
  fP:Addr
  v7:FuncData
  iI:Addr
  xV:FuncData
  jJ:Addr
  a00:FuncData
  nD:Addr
  a5M:FuncData
  pA:Addr
  a8D:FuncData
  pB:Addr
  a8E:FuncData
  lR:Addr
  a2T:FuncData
  pC:Addr
  a8F:FuncData
  rW:Addr
  abY:FuncData
  nF:Addr
  a5N:FuncData
  agE:Addr
  aDK:FuncData
  aK:Addr
  bO:Addr
  cL:Addr
  cM:Addr
  aW:Addr
  bH:Addr
  aM:Addr
  aD:Addr
def aDL (K:Fg) (A:c7) (ex:aY→bM):cI :=
    dY
def axS (K:Fg) (A:c7) (ex:aY→bM):cI :=
    (aoO (bJ (bY (.bl true))) (aDL K A ex))
def ajI (K:Fg) (A:c7):zL:=spD 1 1 fun EX=>axS K A (fun _=>EX)
def a5O:CB:=(.cons (.aHD (.val (.con (.bl true))) (.cons .pass .nil)) .nil)
def aiD (K:Fg) (A:c7):SI:=⟨["k"],[true],[true],[false],[],[],true⟩
def a01 (K:Fg) (A:c7) (ex:aY→bM):cI :=
    (dZ (tL (qF (aF K) (aA (aC 0) (aA (bY (.ty "int")) aH))) (tL (aiQ (qF (aF K) (aA (aC 0) (aA (bY (.ty "bool")) aH)))) (a1A ayY ayY (aC 1) (aC 0) (aC 2)))))
def dI (K:Fg) (A:c7):zL:=spD 3 3 fun EX=>a01 K A (fun _=>EX)
def rY:CB:=(.cons (.ret (.ajB (.cons (.call 1 (.cons (.var 0) (.cons (.glo 0) .nil))) (.cons (.aCJ (.call 1 (.cons (.var 0) (.cons (.glo 2) .nil)))) (.cons (.chain .LtE .LtE (.var 1) (.var 0) (.var 2)) .nil))))) .nil)
def a5P (K:Fg) (A:c7):SI:=⟨["thing", "least", "most"],[true,true,true],[true,true,true],[false,false,false],[("int",.bt "int"),("isinstance",.bf .isi),("bool",.bt "bool")],[true,true,true],true⟩
def agF (K:Fg) (A:c7) (ex:aY→bM):cI :=
    (dZ (tL (aU (dI K A) ex (aA (aN tO (aC 0) (bY (.int 0))) (aA (bY (.int 0)) (aA (aN amN (aC 1) (bY (.int 1))) aH)))) (aU (dI K A) ex (aA (aN tO (aC 0) (bY (.int 1))) (aA (aC 2) (aA (aC 3) aH))))))
def zM (K:Fg) (A:c7) (ex:aY→bM):cI :=
    bL (m7 (acR (tK (bJ (qF (aF K) (aA (aC 0) (aA (bY (.ty "tuple")) aH))))) (bJ (aN aeT (qF a83 (aA (aC 0) aH)) (bY (.int 2))))) (dZ (bY (.bl false))) dY) (agF K A ex)
def a5Q (K:Fg) (A:c7):zL:=spD 4 4 fun EX=>zM K A (fun _=>EX)
def v8:CB:=(.cons (.ifs (.or (.cons (.not (.val (.call 1 (.cons (.var 0) (.cons (.glo 0) .nil))))) (.cons (.cmp .NotEq (.call 2 (.cons (.var 0) .nil)) (.con (.int 2))) .nil))) (.cons (.ret (.con (.bl false))) .nil) .nil) (.cons (.ret (.ajB (.cons (.call 3 (.cons (.ix (.var 0) (.con (.int 0))) (.cons (.con (.int 0)) (.cons (.bin .Sub (.var 1) (.con (.int 1))) .nil)))) (.cons (.call 3 (.cons (.ix (.var 0) (.con (.int 1))) (.cons (.var 2) (.cons (.var 3) .nil)))) .nil)))) .nil))
def aaG (K:Fg) (A:c7):SI:=⟨["thing", "aisles", "first", "last"],[true,true,true,true],[true,true,true,true],[false,false,false,false],[("tuple",.bt "tuple"),("isinstance",.bf .isi),("len",.bf .len),("is_whole",.fn (dI K A) 3 false)],[true,true,true,true],true⟩
def a1D (K:Fg) (A:c7) (ex:aY→bM):cI :=
    (dZ (aU (dI K A) ex (aA (aC 0) (aA (bY (.int 1)) (aA (bY (.int 1000000)) aH)))))
def z8 (K:Fg) (A:c7):zL:=spD 1 1 fun EX=>a1D K A (fun _=>EX)
def pD:CB:=(.cons (.ret (.call 1 (.cons (.var 0) (.cons (.con (.int 1)) (.cons (.glo 0) .nil))))) .nil)
def a1E (K:Fg) (A:c7):SI:=⟨["thing"],[true],[true],[false],[("MOST_AMOUNT",.con (.int 1000000)),("is_whole",.fn (dI K A) 3 false)],[true,true],true⟩
def agG (K:Fg) (A:c7) (ex:aY→bM):cI :=
    (dZ (aU (dI K A) ex (aA (aN tO (aC 0) (bY (.int 2))) (aA (bY (.int 1)) (aA (bY (.int 20)) aH)))))
def agH (K:Fg) (A:c7) (ex:aY→bM):cI :=
    bL (m7 (acR (tK (bJ (aU (dI K A) ex (aA (aN tO (aC 0) (bY (.int 0))) (aA (bY (.int 1)) (aA (bY (.int 26)) aH)))))) (tK (bJ (aU (dI K A) ex (aA (aN tO (aC 0) (bY (.int 1))) (aA (bY (.int 1)) (aA (bY (.int 99)) aH))))))) (dZ (bY (.bl false))) dY) (agG K A ex)
def zN (K:Fg) (A:c7) (ex:aY→bM):cI :=
    bL (m7 (acR (tK (bJ (qF (aF K) (aA (aC 0) (aA (bY (.ty "tuple")) aH))))) (bJ (aN aeT (qF a83 (aA (aC 0) aH)) (bY (.int 3))))) (dZ (bY (.bl false))) dY) (agH K A ex)
def a5R (K:Fg) (A:c7):zL:=spD 1 1 fun EX=>zN K A (fun _=>EX)
def v9:CB:=(.cons (.ifs (.or (.cons (.not (.val (.call 1 (.cons (.var 0) (.cons (.glo 0) .nil))))) (.cons (.cmp .NotEq (.call 2 (.cons (.var 0) .nil)) (.con (.int 3))) .nil))) (.cons (.ret (.con (.bl false))) .nil) .nil) (.cons (.ifs (.or (.cons (.not (.val (.call 4 (.cons (.ix (.var 0) (.con (.int 0))) (.cons (.con (.int 1)) (.cons (.glo 3) .nil)))))) (.cons (.not (.val (.call 4 (.cons (.ix (.var 0) (.con (.int 1))) (.cons (.con (.int 1)) (.cons (.glo 5) .nil)))))) .nil))) (.cons (.ret (.con (.bl false))) .nil) .nil) (.cons (.ret (.call 4 (.cons (.ix (.var 0) (.con (.int 2))) (.cons (.con (.int 1)) (.cons (.glo 6) .nil))))) .nil)))
def aaH (K:Fg) (A:c7):SI:=⟨["thing"],[true],[true],[false],[("tuple",.bt "tuple"),("isinstance",.bf .isi),("len",.bf .len),("MOST_AISLES",.con (.int 26)),("is_whole",.fn (dI K A) 3 false),("MOST_PLACES",.con (.int 99)),("MOST_GAP",.con (.int 20))],[true,true,true,true,true,true,true],true⟩
def a1F (K:Fg) (A:c7) (ex:aY→bM):cI :=
    (m7 (tK (bJ (aU (a5R K A) ex (aA (aC 0) aH)))) (vZ ex A.bO (aA (bY (.str "a tuple of 1 to 26 aisles, 1 to 99 places and a gap from 1 to 20 is wanted")) aH)) dY)
def nG (K:Fg) (A:c7):zL:=spD 1 1 fun EX=>a1F K A (fun _=>EX)
def pF:CB:=(.cons (.ifs (.not (.val (.call 0 (.cons (.var 0) .nil)))) (.cons (.raise 1 (.con (.str "a tuple of 1 to 26 aisles, 1 to 99 places and a gap from 1 to 20 is wanted")) .nil) .nil) .nil) .nil)
def a1G (K:Fg) (A:c7):SI:=⟨["plan"],[true],[true],[false],[("is_plan",.fn (a5R K A) 1 false),("NoPlan",.cls A.bO)],[true,true],true⟩
def ajJ (K:Fg) (A:c7) (ex:aY→bM):cI :=
    (dZ (aU (a5Q K A) ex (aA (aC 1) (aA (aN tO (aC 0) (bY (.int 0))) (aA (bY (.int 1)) (aA (aN tO (aC 0) (bY (.int 1))) aH))))))
def ad3 (K:Fg) (A:c7) (ex:aY→bM):cI :=
    bL (iY (aU (nG K A) ex (aA (aC 0) aH))) (ajJ K A ex)
def aaI (K:Fg) (A:c7):zL:=spD 2 2 fun EX=>ad3 K A (fun _=>EX)
def a02:CB:=(.cons (.expr (.call 0 (.cons (.var 0) .nil))) (.cons (.ret (.call 1 (.cons (.var 1) (.cons (.ix (.var 0) (.con (.int 0))) (.cons (.con (.int 1)) (.cons (.ix (.var 0) (.con (.int 1))) .nil)))))) .nil))
def ad4 (K:Fg) (A:c7):SI:=⟨["plan", "thing"],[true,true],[true,true],[false,false],[("need_plan",.fn (nG K A) 1 false),("is_pair",.fn (a5Q K A) 4 false)],[true,true],true⟩
def a5S (K:Fg) (A:c7) (ex:aY→bM):cI :=
    (m7 (tK (bJ (aU (dI K A) ex (aA (aC 0) (aA (bY (.int 0)) (aA (aN amN (aC 1) (bY (.int 1))) aH)))))) (vZ ex A.cM (aA (bY (.str "there is no lot of that number")) aH)) dY)
def gP (K:Fg) (A:c7):zL:=spD 2 2 fun EX=>a5S K A (fun _=>EX)
def rZ:CB:=(.cons (.ifs (.not (.val (.call 0 (.cons (.var 0) (.cons (.con (.int 0)) (.cons (.bin .Sub (.var 1) (.con (.int 1))) .nil)))))) (.cons (.raise 1 (.con (.str "there is no lot of that number")) .nil) .nil) .nil) .nil)
def a5T (K:Fg) (A:c7):SI:=⟨["thing", "lots"],[true,true],[true,true],[false,false],[("is_whole",.fn (dI K A) 3 false),("NoLot",.cls A.cM)],[true,true],true⟩
def a5U (K:Fg) (A:c7) (ex:aY→bM):cI :=
    (m7 (tK (bJ (aU (aaI K A) ex (aA (aC 0) (aA (aC 1) aH))))) (vZ ex A.cL (aA (bY (.str "a bin of the plan is wanted")) aH)) dY)
def dJ (K:Fg) (A:c7):zL:=spD 2 2 fun EX=>a5U K A (fun _=>EX)
def sE:CB:=(.cons (.ifs (.not (.val (.call 0 (.cons (.var 0) (.cons (.var 1) .nil))))) (.cons (.raise 1 (.con (.str "a bin of the plan is wanted")) .nil) .nil) .nil) .nil)
def a5V (K:Fg) (A:c7):SI:=⟨["plan", "thing"],[true,true],[true,true],[false,false],[("is_bin",.fn (aaI K A) 2 false),("NoBin",.cls A.cL)],[true,true],true⟩
def w6 (K:Fg) (A:c7) (ex:aY→bM):cI :=
    (m7 (tK (bJ (aU (z8 K A) ex (aA (aC 0) aH)))) (vZ ex A.aW (aA (bY (.str "a whole number from 1 to 10 ** 6 is wanted")) aH)) dY)
def eN (K:Fg) (A:c7):zL:=spD 1 1 fun EX=>w6 K A (fun _=>EX)
def lU:CB:=(.cons (.ifs (.not (.val (.call 0 (.cons (.var 0) .nil)))) (.cons (.raise 1 (.con (.str "a whole number from 1 to 10 ** 6 is wanted")) .nil) .nil) .nil) .nil)
def wA (K:Fg) (A:c7):SI:=⟨["thing"],[true],[true],[false],[("is_amount",.fn (z8 K A) 1 false),("NoAmount",.cls A.aW)],[true,true],true⟩
def a5W (K:Fg) (A:c7) (ex:aY→bM):cI :=
    (m7 (bJ (aN a5B (qF af0 (aA (aC 4) aH)) (bY (.int 0)))) (iY (av6 aeZ (aC 0) (aA (aC 1) aH))) dY)
def ajK (K:Fg) (A:c7) (ex:aY→bM):cI :=
    bL (m7 (bJ (aN a5B (aN a5E (aC 4) (aC 2)) (bY (.int 0)))) (iY (av6 aeZ (aC 4) (aA (aC 2) aH))) dY) (a5W K A ex)
def abZ (K:Fg) (A:c7) (ex:aY→bM):cI :=
    bL (aj6 (aC 4) (aC 2) (aN nU (a1B (aC 4) (aC 2) (bY (.int 0))) (aC 3))) (ajK K A ex)
def a3S (K:Fg) (A:c7) (ex:aY→bM):cI :=
    bL (oM 4 (av6 aj7 (aC 0) (aA (aC 1) (aA abR aH)))) (abZ K A ex)
def qH (K:Fg) (A:c7):zL:=spD 5 4 fun EX=>a3S K A (fun _=>EX)
def a03:CB:=(.cons (.set 4 (.dm .sdf (.var 0) (.var 1) (.cons .dct .nil))) (.cons (.aCU (.var 4) (.var 2) (.bin .Add (.dgt (.var 4) (.var 2) (.con (.int 0))) (.var 3))) (.cons (.ifs (.cmp .Eq (.dix (.var 4) (.var 2)) (.con (.int 0))) (.cons (.expr (.dm .pop (.var 4) (.var 2) .nil)) .nil) .nil) (.cons (.ifs (.cmp .Eq (.call 0 (.cons (.var 4) .nil)) (.con (.int 0))) (.cons (.expr (.dm .pop (.var 0) (.var 1) .nil)) .nil) .nil) .nil))))
def ad5 (K:Fg) (A:c7):SI:=⟨["stacks", "spot", "lot", "more", "held"],[true,true,true,true,true],[true,true,true,true,true],[false,false,false,false,false],[("len",.bf .aCI)],[true],true⟩
def ab3 (K:Fg) (A:c7) (ex:aY→bM):cI :=
    (aj6 (aC 1) (aC 2) (qF a5F (aA (acZ (aN a5E (aC 0) (aC 2))) aH)))
def a5X (K:Fg) (A:c7) (ex:aY→bM):cI :=
    (dZ (aC 1))
def a5Y (K:Fg) (A:c7) (ex:aY→bM):cI :=
    bL (aoN (aGE (qF z6 (aA (aC 0) aH))) (aoM 2) (ab3 K A ex)) (a5X K A ex)
def vA (K:Fg) (A:c7) (ex:aY→bM):cI :=
    bL (oM 1 aaB) (a5Y K A ex)
def a8G (K:Fg) (A:c7):zL:=spD 3 1 fun EX=>vA K A (fun _=>EX)
def sG:CB:=(.cons (.set 1 .azH) (.cons (.aHC (.any (.call 0 (.cons (.var 0) .nil))) (.nm 2) (.cons (.aCU (.var 1) (.var 2) (.call 2 (.cons (.sortI 1 (.dix (.var 0) (.var 2))) .nil))) .nil)) (.cons (.ret (.var 1)) .nil)))
def a5Z (K:Fg) (A:c7):SI:=⟨["stacks", "told", "spot"],[true,true,true],[true,true,true],[false,false,false],[("sorted",.bf .as3),("sorted",.bf .an2),("dict",.bf .as4)],[true,true,true],true⟩
def wR (K:Fg) (A:c7) (ex:aY→bM):cI :=
    (aeX A.aD (aC 0) aaB "stacks")
def wU (K:Fg) (A:c7) (ex:aY→bM):cI :=
    bL (aeX A.aD (aC 0) (aC 2) "room") (wR K A ex)
def wV (K:Fg) (A:c7) (ex:aY→bM):cI :=
    bL (aeX A.aD (aC 0) (aC 1) "layout") (wU K A ex)
def wW (K:Fg) (A:c7) (ex:aY→bM):cI :=
    bL (iY (aU (eN K A) ex (aA (aC 2) aH))) (wV K A ex)
def nH (K:Fg) (A:c7) (ex:aY→bM):cI :=
    bL (iY (aU (nG K A) ex (aA (aC 1) aH))) (wW K A ex)
def eZ (K:Fg) (A:c7):zL:=spD 3 3 fun EX=>nH K A (fun _=>EX)
def dG:CB:=(.cons (.expr (.call 0 (.cons (.var 1) .nil))) (.cons (.expr (.call 1 (.cons (.var 2) .nil))) (.cons (.azK 2 (.var 0) (.var 1)) (.cons (.azK 3 (.var 0) (.var 2)) (.cons (.azK 4 (.var 0) .azH) .nil)))))
def nJ (K:Fg) (A:c7):SI:=⟨["self", "plan", "room"],[true,true,true],[true,true,true],[false,false,false],[("need_plan",.fn (nG K A) 1 false),("need_amount",.fn (eN K A) 1 false),("Shelves.layout",.fl A.aD "layout"),("Shelves.room",.fl A.aD "room"),("Shelves.stacks",.fl A.aD "stacks")],[true,true,false,false,false],true⟩
def a04 (K:Fg) (A:c7) (ex:aY→bM):cI :=
    (dZ (aoU (a1B (uK A.aD (aC 0) "stacks") (aC 1) abR)))
def qI (K:Fg) (A:c7) (ex:aY→bM):cI :=
    bL (iY (aU (dJ K A) ex (aA (uK A.aD (aC 0) "layout") (aA (aC 1) aH)))) (a04 K A ex)
def eO (K:Fg) (A:c7):zL:=spD 2 2 fun EX=>qI K A (fun _=>EX)
def fQ:CB:=(.cons (.expr (.call 1 (.cons (.fld 0 (.var 0)) (.cons (.var 1) .nil)))) (.cons (.ret (.aH4 2 (.dgt (.fld 3 (.var 0)) (.var 1) .dct))) .nil))
def qJ (K:Fg) (A:c7):SI:=⟨["self", "spot"],[true,true],[true,true],[false,false],[("Shelves.layout",.fl A.aD "layout"),("need_bin",.fn (dJ K A) 2 false),("sum",.bf .sum),("Shelves.stacks",.fl A.aD "stacks")],[false,true,true,false],true⟩
def lY (K:Fg) (A:c7) (ex:aY→bM):cI :=
    (m7 (bJ (aN ayX (aN nU (nA A.aD "filled" (eO K A) [] ex (aC 0) (aA (aC 1) aH)) (aC 2)) (uK A.aD (aC 0) "room"))) (vZ ex A.bH (aA (bY (.str "the bin would have more than its room")) aH)) dY)
def lA (K:Fg) (A:c7):zL:=spD 3 3 fun EX=>lY K A (fun _=>EX)
def cX:CB:=(.cons (.ifs (.cmp .Gt (.bin .Add (.uM 0 (.var 0) (.cons (.var 1) .nil)) (.var 2)) (.fld 1 (.var 0))) (.cons (.raise 2 (.con (.str "the bin would have more than its room")) .nil) .nil) .nil) .nil)
def lZ (K:Fg) (A:c7):SI:=⟨["self", "spot", "amount"],[true,true,true],[true,true,true],[false,false,false],[("Shelves.filled#1",.me A.aD "filled" (eO K A) []),("Shelves.room",.fl A.aD "room"),("NoRoom",.cls A.bH)],[false,false,true],true⟩
def a70 (K:Fg) (A:c7) (ex:aY→bM):cI :=
    (iY (aU (qH K A) ex (aA (uK A.aD (aC 0) "stacks") (aA (aC 2) (aA (aC 1) (aA (aC 3) aH))))))
def a71 (K:Fg) (A:c7) (ex:aY→bM):cI :=
    bL (iY (nA A.aD "need_room" (lA K A) [] ex (aC 0) (aA (aC 2) (aA (aC 3) aH)))) (a70 K A ex)
def a72 (K:Fg) (A:c7) (ex:aY→bM):cI :=
    bL (iY (aU (eN K A) ex (aA (aC 3) aH))) (a71 K A ex)
def a73 (K:Fg) (A:c7) (ex:aY→bM):cI :=
    bL (iY (aU (dJ K A) ex (aA (uK A.aD (aC 0) "layout") (aA (aC 2) aH)))) (a72 K A ex)
def wB (K:Fg) (A:c7) (ex:aY→bM):cI :=
    bL (iY (aU (gP K A) ex (aA (aC 1) (aA (bY (.int 1000)) aH)))) (a73 K A ex)
def mF (K:Fg) (A:c7):zL:=spD 4 4 fun EX=>wB K A (fun _=>EX)
def lV:CB:=(.cons (.expr (.call 1 (.cons (.var 1) (.cons (.glo 0) .nil)))) (.cons (.expr (.call 3 (.cons (.fld 2 (.var 0)) (.cons (.var 2) .nil)))) (.cons (.expr (.call 4 (.cons (.var 3) .nil))) (.cons (.expr (.uM 5 (.var 0) (.cons (.var 2) (.cons (.var 3) .nil)))) (.cons (.expr (.call 7 (.cons (.fld 6 (.var 0)) (.cons (.var 2) (.cons (.var 1) (.cons (.var 3) .nil)))))) .nil)))))
def wC (K:Fg) (A:c7):SI:=⟨["self", "lot", "spot", "amount"],[true,true,true,true],[true,true,true,true],[false,false,false,false],[("MOST_LOTS",.con (.int 1000)),("need_lot",.fn (gP K A) 2 false),("Shelves.layout",.fl A.aD "layout"),("need_bin",.fn (dJ K A) 2 false),("need_amount",.fn (eN K A) 1 false),("Shelves.need_room#2",.me A.aD "need_room" (lA K A) []),("Shelves.stacks",.fl A.aD "stacks"),("change",.fn (qH K A) 4 false)],[true,true,false,true,true,false,false,true],true⟩
def a05 (K:Fg) (A:c7) (ex:aY→bM):cI :=
    (dZ (a1B (a1B (uK A.aD (aC 0) "stacks") (aC 2) abR) (aC 1) (bY (.int 0))))
def a06 (K:Fg) (A:c7) (ex:aY→bM):cI :=
    bL (iY (aU (dJ K A) ex (aA (uK A.aD (aC 0) "layout") (aA (aC 2) aH)))) (a05 K A ex)
def qK (K:Fg) (A:c7) (ex:aY→bM):cI :=
    bL (iY (aU (gP K A) ex (aA (aC 1) (aA (bY (.int 1000)) aH)))) (a06 K A ex)
def eU (K:Fg) (A:c7):zL:=spD 3 3 fun EX=>qK K A (fun _=>EX)
def fU:CB:=(.cons (.expr (.call 1 (.cons (.var 1) (.cons (.glo 0) .nil)))) (.cons (.expr (.call 3 (.cons (.fld 2 (.var 0)) (.cons (.var 2) .nil)))) (.cons (.ret (.dgt (.dgt (.fld 4 (.var 0)) (.var 2) .dct) (.var 1) (.con (.int 0)))) .nil)))
def qL (K:Fg) (A:c7):SI:=⟨["self", "lot", "spot"],[true,true,true],[true,true,true],[false,false,false],[("MOST_LOTS",.con (.int 1000)),("need_lot",.fn (gP K A) 2 false),("Shelves.layout",.fl A.aD "layout"),("need_bin",.fn (dJ K A) 2 false),("Shelves.stacks",.fl A.aD "stacks")],[true,true,false,true,false],true⟩
def lB (K:Fg) (A:c7) (ex:aY→bM):cI :=
    (m7 (bJ (aN aB7 (nA A.aD "amount" (eU K A) [] ex (aC 0) (aA (aC 1) (aA (aC 2) aH))) (aC 3))) (vZ ex A.aM (aA (bY (.str "less of the lot lies in the bin")) aH)) dY)
def jW (K:Fg) (A:c7):zL:=spD 4 4 fun EX=>lB K A (fun _=>EX)
def cR:CB:=(.cons (.ifs (.cmp .Lt (.uM 0 (.var 0) (.cons (.var 1) (.cons (.var 2) .nil))) (.var 3)) (.cons (.raise 1 (.con (.str "less of the lot lies in the bin")) .nil) .nil) .nil) .nil)
def lC (K:Fg) (A:c7):SI:=⟨["self", "lot", "spot", "amount"],[true,true,true,true],[true,true,true,true],[false,false,false,false],[("Shelves.amount#2",.me A.aD "amount" (eU K A) []),("TooLittle",.cls A.aM)],[false,true],true⟩
def a3T (K:Fg) (A:c7) (ex:aY→bM):cI :=
    (iY (aU (qH K A) ex (aA (uK A.aD (aC 0) "stacks") (aA (aC 2) (aA (aC 1) (aA (awV (aC 3)) aH))))))
def a3U (K:Fg) (A:c7) (ex:aY→bM):cI :=
    bL (iY (nA A.aD "need_there" (jW K A) [] ex (aC 0) (aA (aC 1) (aA (aC 2) (aA (aC 3) aH))))) (a3T K A ex)
def a3V (K:Fg) (A:c7) (ex:aY→bM):cI :=
    bL (iY (aU (eN K A) ex (aA (aC 3) aH))) (a3U K A ex)
def a3W (K:Fg) (A:c7) (ex:aY→bM):cI :=
    bL (iY (aU (dJ K A) ex (aA (uK A.aD (aC 0) "layout") (aA (aC 2) aH)))) (a3V K A ex)
def tW (K:Fg) (A:c7) (ex:aY→bM):cI :=
    bL (iY (aU (gP K A) ex (aA (aC 1) (aA (bY (.int 1000)) aH)))) (a3W K A ex)
def nW (K:Fg) (A:c7):zL:=spD 4 4 fun EX=>tW K A (fun _=>EX)
def jK:CB:=(.cons (.expr (.call 1 (.cons (.var 1) (.cons (.glo 0) .nil)))) (.cons (.expr (.call 3 (.cons (.fld 2 (.var 0)) (.cons (.var 2) .nil)))) (.cons (.expr (.call 4 (.cons (.var 3) .nil))) (.cons (.expr (.uM 5 (.var 0) (.cons (.var 1) (.cons (.var 2) (.cons (.var 3) .nil))))) (.cons (.expr (.call 7 (.cons (.fld 6 (.var 0)) (.cons (.var 2) (.cons (.var 1) (.cons (.neg (.var 3)) .nil)))))) .nil)))))
def tX (K:Fg) (A:c7):SI:=⟨["self", "lot", "spot", "amount"],[true,true,true,true],[true,true,true,true],[false,false,false,false],[("MOST_LOTS",.con (.int 1000)),("need_lot",.fn (gP K A) 2 false),("Shelves.layout",.fl A.aD "layout"),("need_bin",.fn (dJ K A) 2 false),("need_amount",.fn (eN K A) 1 false),("Shelves.need_there#3",.me A.aD "need_there" (jW K A) []),("Shelves.stacks",.fl A.aD "stacks"),("change",.fn (qH K A) 4 false)],[true,true,false,true,true,false,false,true],true⟩
def a74 (K:Fg) (A:c7) (ex:aY→bM):cI :=
    (iY (aU (ajI K A) ex (aA (bY (.int 0)) aH)))
def af8 (K:Fg) (A:c7):zL:=spD 5 5 fun EX=>a74 K A (fun _=>EX)
def iJ:CB:=(.cons (.expr (.call 0 (.cons (.con (.int 0)) .nil))) .nil)
def rJ (K:Fg) (A:c7):SI:=⟨["self", "lot", "one", "other", "amount"],[true,true,true,true,true],[true,true,true,true,true],[false,false,false,false,false],[("_wall",.fn (ajI K A) 1 false)],[true],true⟩
def a3X (K:Fg) (A:c7) (ex:aY→bM):cI :=
    (dZ (acZ (a1B (uK A.aD (aC 0) "stacks") (aC 1) abR)))
def tY (K:Fg) (A:c7) (ex:aY→bM):cI :=
    bL (iY (aU (dJ K A) ex (aA (uK A.aD (aC 0) "layout") (aA (aC 1) aH)))) (a3X K A ex)
def rK (K:Fg) (A:c7):zL:=spD 2 2 fun EX=>tY K A (fun _=>EX)
def jL:CB:=(.cons (.expr (.call 1 (.cons (.fld 0 (.var 0)) (.cons (.var 1) .nil)))) (.cons (.ret (.sortI 2 (.dgt (.fld 3 (.var 0)) (.var 1) .dct))) .nil))
def tZ (K:Fg) (A:c7):SI:=⟨["self", "spot"],[true,true],[true,true],[false,false],[("Shelves.layout",.fl A.aD "layout"),("need_bin",.fn (dJ K A) 2 false),("sorted",.bf .an2),("Shelves.stacks",.fl A.aD "stacks")],[false,true,true,false],true⟩
def sH (K:Fg) (A:c7) (ex:aY→bM):cI :=
    (dZ (av5 (aiX (qF z6 (aA (uK A.aD (aC 0) "stacks") aH))) (bJ (aN arQ (aC 2) (aN a5E (uK A.aD (aC 1) "stacks") (aC 0)))) (a6Y (aA (aC 0) (aA (aN a5E (aN a5E (uK A.aD (aC 1) "stacks") (aC 0)) (aC 2)) aH)))))
def j6 (K:Fg) (A:c7) (ex:aY→bM):cI :=
    bL (iY (aU (gP K A) ex (aA (aC 1) (aA (bY (.int 1000)) aH)))) (sH K A ex)
def gZ (K:Fg) (A:c7):zL:=spD 2 2 fun EX=>j6 K A (fun _=>EX)
def fV:CB:=(.cons (.expr (.call 1 (.cons (.var 1) (.cons (.glo 0) .nil)))) (.cons (.ret (.comp [true,true] [false,false,false,false] (.any (.call 3 (.cons (.fld 2 (.var 0)) .nil))) (.some (.din false (.var 2) (.dix (.fld 2 (.var 1)) (.var 0)))) (.tup (.cons (.var 0) (.cons (.dix (.dix (.fld 2 (.var 1)) (.var 0)) (.var 2)) .nil))))) .nil))
def qM (K:Fg) (A:c7):SI:=⟨["self", "lot"],[true,true],[false,false],[true,true],[("MOST_LOTS",.con (.int 1000)),("need_lot",.fn (gP K A) 2 false),("Shelves.stacks",.fl A.aD "stacks"),("sorted",.bf .as3)],[true,true,false,true],true⟩
def jX (K:Fg) (A:c7) (ex:aY→bM):cI :=
    (dZ (aU (a8G K A) ex (aA (uK A.aD (aC 0) "stacks") aH)))
def j7 (K:Fg) (A:c7):zL:=spD 1 1 fun EX=>jX K A (fun _=>EX)
def iK:CB:=(.cons (.ret (.call 1 (.cons (.fld 0 (.var 0)) .nil))) .nil)
def rM (K:Fg) (A:c7):SI:=⟨["self"],[true],[true],[false],[("Shelves.stacks",.fl A.aD "stacks"),("in_order",.fn (a8G K A) 1 false)],[false,true],true⟩
def a3Y (K:Fg) (A:c7) (ex:aY→bM):cI :=
    (dZ (aN m6 (aN nU (aN acS (aC 2) (aC 2)) (aN acS (bY (.int 48271)) (aC 1))) (bY (.int 2147483629))))
def a3Z (K:Fg) (A:c7) (ex:aY→bM):cI :=
    bL (oM 2 (aN m6 (aN nU (aN acS (aN tO (aC 0) (aN m6 (aC 1) (qF a83 (aA (aC 0) aH)))) (bY (.int 48271))) (aN acS (aC 1) (bY (.int 104729)))) (bY (.int 2147483647)))) (a3Y K A ex)
def a4A (K:Fg) (A:c7) (ex:aY→bM):cI :=
    bL (m7 (bJ (aN a5B (aC 0) (yH aH))) (dZ (bY (.int 0))) dY) (a3Z K A ex)
def u0 (K:Fg) (A:c7) (ex:aY→bM):cI :=
    bL (m7 (bJ (aN aB7 (aC 1) (qF a83 (aA (aC 0) aH)))) (dZ (aN tO (aC 0) (aC 1))) dY) (a4A K A ex)
def bR (K:Fg) (A:c7):zL:=spD 3 2 fun EX=>u0 K A (fun _=>EX)
def jM:CB:=(.cons (.ifs (.cmp .Lt (.var 1) (.call 0 (.cons (.var 0) .nil))) (.cons (.ret (.ix (.var 0) (.var 1))) .nil) .nil) (.cons (.ifs (.cmp .Eq (.var 0) (.lst .nil)) (.cons (.ret (.con (.int 0))) .nil) .nil) (.cons (.set 2 (.bin .Mod (.bin .Add (.bin .Mult (.ix (.var 0) (.bin .Mod (.var 1) (.call 0 (.cons (.var 0) .nil)))) (.con (.int 48271))) (.bin .Mult (.var 1) (.con (.int 104729)))) (.con (.int 2147483647)))) (.cons (.ret (.bin .Mod (.bin .Add (.bin .Mult (.var 2) (.var 2)) (.bin .Mult (.con (.int 48271)) (.var 1))) (.con (.int 2147483629)))) .nil))))
def u5 (K:Fg) (A:c7):SI:=⟨["_law_script", "_law_k", "_law_mixed"],[true,true,true],[true,true,true],[false,false,false],[("len",.bf .len)],[true],true⟩
def z9 (K:Fg) (A:c7) (ex:aY→bM):cI :=
    (dZ (tL (qF (aF K) (aA (aC 0) (aA (bY (.ty "int")) aH))) (aiQ (qF (aF K) (aA (aC 0) (aA (bY (.ty "bool")) aH))))))
def qW (K:Fg) (A:c7):zL:=spD 1 1 fun EX=>z9 K A (fun _=>EX)
def nM:CB:=(.cons (.ret (.ajB (.cons (.call 1 (.cons (.var 0) (.cons (.glo 0) .nil))) (.cons (.aCJ (.call 1 (.cons (.var 0) (.cons (.glo 2) .nil)))) .nil)))) .nil)
def zA (K:Fg) (A:c7):SI:=⟨["_law_found"],[true],[true],[false],[("int",.bt "int"),("isinstance",.bf .isi),("bool",.bt "bool")],[true,true,true],true⟩
def ab4 (K:Fg) (A:c7) (ex:aY→bM):cI :=
    (dZ (a6Y (aA (aC 4) (aA (aC 5) (aA (aN nU (bY (.int 1)) (aN m6 (aN tM (aC 2) (bY (.int 104))) (bY (.int 20)))) aH)))))
def ab5 (K:Fg) (A:c7) (ex:aY→bM):cI :=
    bL (oM 5 (aN tO (yH (aA (aN nU (bY (.int 1)) (aN m6 (aC 3) (bY (.int 6)))) (aA (aN nU (bY (.int 1)) (aN m6 (aC 3) (bY (.int 99)))) aH))) (qF amT (aA (aN a5B (aN m6 (aN tM (aC 3) (bY (.int 99))) (bY (.int 4))) (bY (.int 1))) aH)))) (ab4 K A ex)
def ab6 (K:Fg) (A:c7) (ex:aY→bM):cI :=
    bL (oM 4 (aN tO (yH (aA (aN nU (bY (.int 1)) (aN m6 (aC 2) (bY (.int 4)))) (aA (aN nU (bY (.int 1)) (aN m6 (aC 2) (bY (.int 26)))) aH))) (qF amT (aA (aN a5B (aN m6 (aN tM (aC 2) (bY (.int 26))) (bY (.int 4))) (bY (.int 1))) aH)))) (ab5 K A ex)
def ab7 (K:Fg) (A:c7) (ex:aY→bM):cI :=
    bL (oM 3 (aU (bR K A) ex (aA (aC 0) (aA (aN nU (aC 1) (bY (.int 1))) aH)))) (ab6 K A ex)
def a1H (K:Fg) (A:c7) (ex:aY→bM):cI :=
    bL (oM 2 (aU (bR K A) ex (aA (aC 0) (aA (aC 1) aH)))) (ab7 K A ex)
def zB (K:Fg) (A:c7):zL:=spD 6 2 fun EX=>a1H K A (fun _=>EX)
def pG:CB:=(.cons (.set 2 (.call 0 (.cons (.var 0) (.cons (.var 1) .nil)))) (.cons (.set 3 (.call 0 (.cons (.var 0) (.cons (.bin .Add (.var 1) (.con (.int 1))) .nil)))) (.cons (.set 4 (.ix (.lst (.cons (.bin .Add (.con (.int 1)) (.bin .Mod (.var 2) (.con (.int 4)))) (.cons (.bin .Add (.con (.int 1)) (.bin .Mod (.var 2) (.con (.int 26)))) .nil))) (.call 1 (.cons (.cmp .Eq (.bin .Mod (.bin .FloorDiv (.var 2) (.con (.int 26))) (.con (.int 4))) (.con (.int 1))) .nil)))) (.cons (.set 5 (.ix (.lst (.cons (.bin .Add (.con (.int 1)) (.bin .Mod (.var 3) (.con (.int 6)))) (.cons (.bin .Add (.con (.int 1)) (.bin .Mod (.var 3) (.con (.int 99)))) .nil))) (.call 1 (.cons (.cmp .Eq (.bin .Mod (.bin .FloorDiv (.var 3) (.con (.int 99))) (.con (.int 4))) (.con (.int 1))) .nil)))) (.cons (.ret (.tup (.cons (.var 4) (.cons (.var 5) (.cons (.bin .Add (.con (.int 1)) (.bin .Mod (.bin .FloorDiv (.var 2) (.con (.int 104))) (.con (.int 20)))) .nil))))) .nil)))))
def a1I (K:Fg) (A:c7):SI:=⟨["_law_script", "_law_k", "_law_cell", "_law_other", "_law_aisles", "_law_places"],[true,true,true,true,true,true],[true,true,true,true,true,true],[false,false,false,false,false,false],[("_law_cell_at",.fn (bR K A) 2 false),("int",.bt "int")],[true,true],true⟩
def a1J (K:Fg) (A:c7) (ex:aY→bM):cI :=
    (dZ (a6Y (aA (aN m6 (aC 1) (aN tO (aC 0) (bY (.int 0)))) (aA (aN nU (bY (.int 1)) (aN m6 (aN tM (aC 1) (bY (.int 26))) (aN tO (aC 0) (bY (.int 1))))) aH))))
def zE (K:Fg) (A:c7):zL:=spD 2 2 fun EX=>a1J K A (fun _=>EX)
def pH:CB:=(.cons (.ret (.tup (.cons (.bin .Mod (.var 1) (.ix (.var 0) (.con (.int 0)))) (.cons (.bin .Add (.con (.int 1)) (.bin .Mod (.bin .FloorDiv (.var 1) (.con (.int 26))) (.ix (.var 0) (.con (.int 1))))) .nil)))) .nil)
def a1K (K:Fg) (A:c7):SI:=⟨["_law_plan_here", "_law_cell"],[true,true],[true,true],[false,false],[],[],true⟩
def a75 (K:Fg) (A:c7) (ex:aY→bM):cI :=
    (dZ (a6Y (aA (bY (.str "refused")) (aA (tM3 "list" a3P (aC 1) (aA (bY (.bl true)) aH)) aH))))
def a76 (K:Fg) (A:c7) (ex:aY→bM):cI :=
    bL (m7 (acR (tK (bJ (qF (aF K) (aA (aC 0) (aA (bY (.ty "ValueError")) aH))))) (bJ (aN aeT (qF a83 (aA (av5 (aiX (aC 1)) (bJ (aC 0)) (aC 0)) aH)) (bY (.int 1))))) (dZ (a6Y (aA (bY (.str "other")) (aA (bY (.int 7)) aH)))) dY) (a75 K A ex)
def a77 (K:Fg) (A:c7) (ex:aY→bM):cI :=
    bL (oM 1 (aN nU (aC 1) (yH (aA (qF (aF K) (aA (aC 0) (aA (bY (.ref A.aM)) aH))) (aA (qF (aF K) (aA (aC 0) (aA (bY (.ref A.bH)) aH))) aH))))) (a76 K A ex)
def wD (K:Fg) (A:c7) (ex:aY→bM):cI :=
    bL (oM 1 (yH (aA (qF (aF K) (aA (aC 0) (aA (bY (.ref A.bO)) aH))) (aA (qF (aF K) (aA (aC 0) (aA (bY (.ref A.cM)) aH))) (aA (qF (aF K) (aA (aC 0) (aA (bY (.ref A.cL)) aH))) (aA (qF (aF K) (aA (aC 0) (aA (bY (.ref A.aW)) aH))) aH)))))) (a77 K A ex)
def gQ (K:Fg) (A:c7):zL:=spD 2 1 fun EX=>wD K A (fun _=>EX)
def lW:CB:=(.cons (.set 1 (.lst (.cons (.call 1 (.cons (.var 0) (.cons (.glo 0) .nil))) (.cons (.call 1 (.cons (.var 0) (.cons (.glo 2) .nil))) (.cons (.call 1 (.cons (.var 0) (.cons (.glo 3) .nil))) (.cons (.call 1 (.cons (.var 0) (.cons (.glo 4) .nil))) .nil)))))) (.cons (.set 1 (.bin .Add (.var 1) (.lst (.cons (.call 1 (.cons (.var 0) (.cons (.glo 5) .nil))) (.cons (.call 1 (.cons (.var 0) (.cons (.glo 6) .nil))) .nil))))) (.cons (.ifs (.or (.cons (.not (.val (.call 1 (.cons (.var 0) (.cons (.glo 7) .nil))))) (.cons (.cmp .NotEq (.call 8 (.cons (.comp [false,false] [false,false,false,false,false,false,false,false,false] (.any (.var 1)) (.some (.val (.var 0))) (.var 0)) .nil)) (.con (.int 1))) .nil))) (.cons (.ret (.tup (.cons (.con (.str "other")) (.cons (.con (.int 7)) .nil)))) .nil) .nil) (.cons (.ret (.tup (.cons (.con (.str "refused")) (.cons (.meth .af3 (.var 1) (.cons (.con (.bl true)) .nil)) .nil)))) .nil))))
def wF (K:Fg) (A:c7):SI:=⟨["_law_e", "_law_marks"],[true,true],[true,true],[false,false],[("NoPlan",.cls A.bO),("isinstance",.bf .isi),("NoLot",.cls A.cM),("NoBin",.cls A.cL),("NoAmount",.cls A.aW),("TooLittle",.cls A.aM),("NoRoom",.cls A.bH),("ValueError",.bt "ValueError"),("len",.bf .len)],[true,true,true,true,true,true,true,true,true],false⟩
def ab8 (K:Fg) (A:c7) (ex:aY→bM):cI :=
    (dZ (tL (aN a5B (nA A.aD "places" (gZ K A) [] ex (aC 0) (aA (aC 1) aH)) (yH (aA (a6Y (aA (aC 2) (aA (aC 3) aH))) aH))) (aN (aj9 false) (nA A.aD "lying" (j7 K A) [] ex (aC 0) aH) (ajA true (aC 2) (ajA false (aC 1) (aC 3))))))
def ab9 (K:Fg) (A:c7) (ex:aY→bM):cI :=
    bL (m7 (acR (tK (bJ (qF (aF K) (aA (aC 4) (aA (bY (.ty "list")) aH))))) (acR (bJ (aN aeT (aC 4) (yH (aA (a6Y (aA (aC 1) (aA (aC 3) aH))) aH)))) (tK (bJ (qF (aF K) (aA (aN tO (aC 4) (bY (.int 0))) (aA (bY (.ty "tuple")) aH))))))) (dZ (bY (.bl false))) dY) (ab8 K A ex)
def a2U (K:Fg) (A:c7) (ex:aY→bM):cI :=
    bL (m7 (bJ (aN a5B (aC 3) (bY (.int 0)))) (dZ (tL (aN a5B (aC 4) (yH aH)) (tL (aN a5B (nA A.aD "places" (gZ K A) [] ex (aC 0) (aA (aC 1) aH)) (yH aH)) (aN (aj9 false) (nA A.aD "lying" (j7 K A) [] ex (aC 0) aH) aaB)))) dY) (ab9 K A ex)
def a2V (K:Fg) (A:c7) (ex:aY→bM):cI :=
    bL (m7 (acR (bJ (aN aeT (nA A.aD "amount" (eU K A) [] ex (aC 0) (aA (aC 1) (aA (aC 2) aH))) (aC 3))) (bJ (aN aeT (nA A.aD "filled" (eO K A) [] ex (aC 0) (aA (aC 2) aH)) (aC 3)))) (dZ (bY (.bl false))) dY) (a2U K A ex)
def a2W (K:Fg) (A:c7) (ex:aY→bM):cI :=
    bL (m7 (acR (tK (bJ (aU (qW K A) ex (aA (nA A.aD "amount" (eU K A) [] ex (aC 0) (aA (aC 1) (aA (aC 2) aH))) aH)))) (tK (bJ (aU (qW K A) ex (aA (nA A.aD "filled" (eO K A) [] ex (aC 0) (aA (aC 2) aH)) aH))))) (dZ (bY (.bl false))) dY) (a2V K A ex)
def sX (K:Fg) (A:c7) (ex:aY→bM):cI :=
    bL (oM 4 (nA A.aD "held" (rK K A) [] ex (aC 0) (aA (aC 2) aH))) (a2W K A ex)
def gF (K:Fg) (A:c7):zL:=spD 5 4 fun EX=>sX K A (fun _=>EX)
def pI:CB:=(.cons (.set 4 (.uM 0 (.var 0) (.cons (.var 2) .nil))) (.cons (.ifs (.or (.cons (.not (.val (.call 2 (.cons (.uM 1 (.var 0) (.cons (.var 1) (.cons (.var 2) .nil))) .nil)))) (.cons (.not (.val (.call 2 (.cons (.uM 3 (.var 0) (.cons (.var 2) .nil)) .nil)))) .nil))) (.cons (.ret (.con (.bl false))) .nil) .nil) (.cons (.ifs (.or (.cons (.cmp .NotEq (.uM 1 (.var 0) (.cons (.var 1) (.cons (.var 2) .nil))) (.var 3)) (.cons (.cmp .NotEq (.uM 3 (.var 0) (.cons (.var 2) .nil)) (.var 3)) .nil))) (.cons (.ret (.con (.bl false))) .nil) .nil) (.cons (.ifs (.cmp .Eq (.var 3) (.con (.int 0))) (.cons (.ret (.ajB (.cons (.cmp .Eq (.var 4) (.lst .nil)) (.cons (.cmp .Eq (.uM 4 (.var 0) (.cons (.var 1) .nil)) (.lst .nil)) (.cons (.deq false (.uM 5 (.var 0) .nil) .azH) .nil))))) .nil) .nil) (.cons (.ifs (.or (.cons (.not (.val (.call 7 (.cons (.var 4) (.cons (.glo 6) .nil))))) (.cons (.cmp .NotEq (.var 4) (.lst (.cons (.tup (.cons (.var 1) (.cons (.var 3) .nil))) .nil))) (.cons (.not (.val (.call 7 (.cons (.ix (.var 4) (.con (.int 0))) (.cons (.glo 8) .nil))))) .nil)))) (.cons (.ret (.con (.bl false))) .nil) .nil) (.cons (.ret (.ajB (.cons (.cmp .Eq (.uM 4 (.var 0) (.cons (.var 1) .nil)) (.lst (.cons (.tup (.cons (.var 2) (.cons (.var 3) .nil))) .nil))) (.cons (.deq false (.uM 5 (.var 0) .nil) (.aCK true (.var 2) (.aCK false (.var 1) (.var 3)))) .nil)))) .nil))))))
def a1L (K:Fg) (A:c7):SI:=⟨["_law_shelves", "_law_lot", "_law_spot_here", "_law_due", "_law_held"],[true,true,true,true,true],[true,true,true,true,true],[false,false,false,false,false],[("Shelves.held#1",.me A.aD "held" (rK K A) []),("Shelves.amount#2",.me A.aD "amount" (eU K A) []),("_law_whole",.fn (qW K A) 1 false),("Shelves.filled#1",.me A.aD "filled" (eO K A) []),("Shelves.places#1",.me A.aD "places" (gZ K A) []),("Shelves.lying#0",.me A.aD "lying" (j7 K A) []),("list",.bt "list"),("isinstance",.bf .isi),("tuple",.bt "tuple")],[false,false,true,false,false,false,true,true,true],true⟩
def vB (K:Fg) (A:c7) (ex:aY→bM):cI :=
    (amP K A.aK 4 (fun EX2=>(dZ (nA A.aD "put" (mF K A) [] EX2 (aC 0) (aA (aC 1) (aA (aC 2) (aA (aC 3) aH)))))) (dZ (aU (gQ K A) NoX (aA (aC 4) aH))))
def pJ (K:Fg) (A:c7):zL:=spD 5 4 fun EX=>vB K A (fun _=>EX)
def sI:CB:=(.cons (.aCT 0 4 (.cons (.ret (.uM 1 (.var 0) (.cons (.var 1) (.cons (.var 2) (.cons (.var 3) .nil))))) .nil) (.cons (.ret (.call 2 (.cons (.var 4) .nil))) .nil)) .nil)
def a65 (K:Fg) (A:c7):SI:=⟨["_law_shelves", "_law_lot", "_law_spot_here", "_law_amount", "_law_e"],[true,true,true,true,true],[true,true,true,true,true],[false,false,false,false,false],[("DepotError",.cls A.aK),("Shelves.put#3",.me A.aD "put" (mF K A) []),("_law_raised",.fn (gQ K A) 1 true)],[true,false,true],true⟩
def zF (K:Fg) (A:c7) (ex:aY→bM):cI :=
    (amP K A.aK 4 (fun EX2=>(dZ (nA A.aD "take" (nW K A) [] EX2 (aC 0) (aA (aC 1) (aA (aC 2) (aA (aC 3) aH)))))) (dZ (aU (gQ K A) NoX (aA (aC 4) aH))))
def qX (K:Fg) (A:c7):zL:=spD 5 4 fun EX=>zF K A (fun _=>EX)
def nO:CB:=(.cons (.aCT 0 4 (.cons (.ret (.uM 1 (.var 0) (.cons (.var 1) (.cons (.var 2) (.cons (.var 3) .nil))))) .nil) (.cons (.ret (.call 2 (.cons (.var 4) .nil))) .nil)) .nil)
def zG (K:Fg) (A:c7):SI:=⟨["_law_shelves", "_law_lot", "_law_spot_here", "_law_amount", "_law_e"],[true,true,true,true,true],[true,true,true,true,true],[false,false,false,false,false],[("DepotError",.cls A.aK),("Shelves.take#3",.me A.aD "take" (nW K A) []),("_law_raised",.fn (gQ K A) 1 true)],[true,false,true],true⟩
def ajL (K:Fg) (A:c7) (ex:aY→bM):cI :=
    (dZ (tL (aN az0 (aU (pJ K A) ex (aA (aC 6) (aA (aC 3) (aA (aC 2) (aA (aC 10) aH))))) (bY .non)) (aU (gF K A) ex (aA (aC 6) (aA (aC 3) (aA (aC 2) (aA (aC 8) aH)))))))
def asO (K:Fg) (A:c7) (ex:aY→bM):cI :=
    bL (m7 (acR (bJ (aN aeQ (aU (qX K A) ex (aA (aC 6) (aA (aC 3) (aA (aC 2) (aA (aC 10) aH))))) (bY .non))) (tK (bJ (aU (gF K A) ex (aA (aC 6) (aA (aC 3) (aA (aC 2) (aA (aN amN (aC 8) (aC 10)) aH)))))))) (dZ (bY (.bl false))) dY) (ajL K A ex)
def ajM (K:Fg) (A:c7) (ex:aY→bM):cI :=
    bL (m7 (bJ (aN ayX (aC 10) (aC 8))) (dZ (tL (aN a5B (aU (qX K A) ex (aA (aC 6) (aA (aC 3) (aA (aC 2) (aA (aC 10) aH))))) (a6Y (aA (bY (.str "refused")) (aA (bY (.int 4)) aH)))) (aU (gF K A) ex (aA (aC 6) (aA (aC 3) (aA (aC 2) (aA (aC 8) aH))))))) dY) (asO K A ex)
def asQ (K:Fg) (A:c7) (ex:aY→bM):cI :=
    bL (oM 10 (qF aj1 (aA (aN acT (bY (.int 10)) (bY (.int 6))) (aA (aN tO (yH (aA (aC 8) (aA (aN nU (aC 8) (bY (.int 1))) (aA (aN nU (bY (.int 1)) (aN m6 (aN tM (aC 9) (bY (.int 4))) (aC 8))) (aA (bY (.int 1)) aH))))) (aN m6 (aC 9) (bY (.int 4)))) aH)))) (ajM K A ex)
def asR (K:Fg) (A:c7) (ex:aY→bM):cI :=
    bL (oM 9 (aU (bR K A) ex (aA (aC 0) (aA (bY (.int 6)) aH)))) (asQ K A ex)
def asS (K:Fg) (A:c7) (ex:aY→bM):cI :=
    bL (m7 (acR (bJ (aN aeQ (aU (pJ K A) ex (aA (aC 6) (aA (aC 3) (aA (aC 2) (aA (aC 8) aH))))) (bY .non))) (tK (bJ (aU (gF K A) ex (aA (aC 6) (aA (aC 3) (aA (aC 2) (aA (aC 8) aH)))))))) (dZ (bY (.bl false))) dY) (asR K A ex)
def asT (K:Fg) (A:c7) (ex:aY→bM):cI :=
    bL (m7 (bJ (aN ayX (aC 8) (aC 5))) (dZ (tL (aN a5B (aU (pJ K A) ex (aA (aC 6) (aA (aC 3) (aA (aC 2) (aA (aC 8) aH))))) (a6Y (aA (bY (.str "refused")) (aA (bY (.int 5)) aH)))) (aU (gF K A) ex (aA (aC 6) (aA (aC 3) (aA (aC 2) (aA (bY (.int 0)) aH))))))) dY) (asS K A ex)
def ajN (K:Fg) (A:c7) (ex:aY→bM):cI :=
    bL (m7 (tK (bJ (aU (gF K A) ex (aA (aC 6) (aA (aC 3) (aA (aC 2) (aA (bY (.int 0)) aH))))))) (dZ (bY (.bl false))) dY) (asT K A ex)
def axT (K:Fg) (A:c7) (ex:aY→bM):cI :=
    bL (oM 8 (qF aj1 (aA (aN acT (bY (.int 10)) (bY (.int 6))) (aA (aN tO (yH (aA (aC 5) (aA (aN nU (aC 5) (bY (.int 1))) (aA (aN nU (bY (.int 1)) (aN m6 (aN tM (aC 7) (bY (.int 4))) (aC 5))) (aA (aN nU (bY (.int 1)) (aN m6 (aN tM (aC 7) (bY (.int 4))) (aN acT (bY (.int 10)) (bY (.int 6))))) aH))))) (aN m6 (aC 7) (bY (.int 4)))) aH)))) (ajN K A ex)
def apE (K:Fg) (A:c7) (ex:aY→bM):cI :=
    bL (oM 7 (aU (bR K A) ex (aA (aC 0) (aA (bY (.int 5)) aH)))) (axT K A ex)
def axU (K:Fg) (A:c7) (ex:aY→bM):cI :=
    bL (m7 (bJ (aN a5B (aN m6 (aC 4) (bY (.int 4))) (bY (.int 3)))) (oM 6 (aeY A.aD (eZ K A) [.int 1000] ex (aA (aC 1) aH))) dY) (apE K A ex)
def apF (K:Fg) (A:c7) (ex:aY→bM):cI :=
    bL (oM 6 (aeY A.aD (eZ K A) [] ex (aA (aC 1) (aA (aC 5) aH)))) (axU K A ex)
def axV (K:Fg) (A:c7) (ex:aY→bM):cI :=
    bL (oM 5 (aN tO (yH (aA (aN nU (bY (.int 1)) (aN m6 (aN tM (aC 4) (bY (.int 4))) (bY (.int 40)))) (aA (aN nU (bY (.int 1)) (aN m6 (aN tM (aC 4) (bY (.int 4))) (aN acT (bY (.int 10)) (bY (.int 6))))) (aA (aN acT (bY (.int 10)) (bY (.int 6))) (aA (bY (.int 1000)) aH))))) (aN m6 (aC 4) (bY (.int 4))))) (apF K A ex)
def axW (K:Fg) (A:c7) (ex:aY→bM):cI :=
    bL (oM 4 (aU (bR K A) ex (aA (aC 0) (aA (bY (.int 4)) aH)))) (axV K A ex)
def axX (K:Fg) (A:c7) (ex:aY→bM):cI :=
    bL (oM 3 (aN tO (yH (aA (aN m6 (aU (bR K A) ex (aA (aC 0) (aA (bY (.int 3)) aH))) (bY (.int 1000))) (aA (bY (.int 0)) (aA (bY (.int 999)) aH)))) (aN m6 (aN tM (aU (bR K A) ex (aA (aC 0) (aA (bY (.int 3)) aH))) (bY (.int 1000))) (bY (.int 3))))) (axW K A ex)
def axY (K:Fg) (A:c7) (ex:aY→bM):cI :=
    bL (oM 2 (aU (zE K A) ex (aA (aC 1) (aA (aU (bR K A) ex (aA (aC 0) (aA (bY (.int 2)) aH))) aH)))) (axX K A ex)
def axZ (K:Fg) (A:c7) (ex:aY→bM):cI :=
    bL (oM 1 (aU (zB K A) ex (aA (aC 0) (aA (bY (.int 0)) aH)))) (axY K A ex)
def apG (K:Fg) (A:c7):zL:=spD 11 1 fun EX=>axZ K A (fun _=>EX)
def ajO:CB:=(.cons (.set 1 (.call 0 (.cons (.var 0) (.cons (.con (.int 0)) .nil)))) (.cons (.set 2 (.call 2 (.cons (.var 1) (.cons (.call 1 (.cons (.var 0) (.cons (.con (.int 2)) .nil))) .nil)))) (.cons (.set 3 (.ix (.lst (.cons (.bin .Mod (.call 1 (.cons (.var 0) (.cons (.con (.int 3)) .nil))) (.con (.int 1000))) (.cons (.con (.int 0)) (.cons (.con (.int 999)) .nil)))) (.bin .Mod (.bin .FloorDiv (.call 1 (.cons (.var 0) (.cons (.con (.int 3)) .nil))) (.con (.int 1000))) (.con (.int 3))))) (.cons (.set 4 (.call 1 (.cons (.var 0) (.cons (.con (.int 4)) .nil)))) (.cons (.set 5 (.ix (.lst (.cons (.bin .Add (.con (.int 1)) (.bin .Mod (.bin .FloorDiv (.var 4) (.con (.int 4))) (.con (.int 40)))) (.cons (.bin .Add (.con (.int 1)) (.bin .Mod (.bin .FloorDiv (.var 4) (.con (.int 4))) (.bin .Pow (.con (.int 10)) (.con (.int 6))))) (.cons (.bin .Pow (.con (.int 10)) (.con (.int 6))) (.cons (.con (.int 1000)) .nil))))) (.bin .Mod (.var 4) (.con (.int 4))))) (.cons (.set 6 (.call 3 (.cons (.var 1) (.cons (.var 5) .nil)))) (.cons (.ifs (.cmp .Eq (.bin .Mod (.var 4) (.con (.int 4))) (.con (.int 3))) (.cons (.set 6 (.call 4 (.cons (.var 1) .nil))) .nil) .nil) (.cons (.set 7 (.call 1 (.cons (.var 0) (.cons (.con (.int 5)) .nil)))) (.cons (.set 8 (.call 5 (.cons (.bin .Pow (.con (.int 10)) (.con (.int 6))) (.cons (.ix (.lst (.cons (.var 5) (.cons (.bin .Add (.var 5) (.con (.int 1))) (.cons (.bin .Add (.con (.int 1)) (.bin .Mod (.bin .FloorDiv (.var 7) (.con (.int 4))) (.var 5))) (.cons (.bin .Add (.con (.int 1)) (.bin .Mod (.bin .FloorDiv (.var 7) (.con (.int 4))) (.bin .Pow (.con (.int 10)) (.con (.int 6))))) .nil))))) (.bin .Mod (.var 7) (.con (.int 4)))) .nil)))) (.cons (.ifs (.not (.val (.call 6 (.cons (.var 6) (.cons (.var 3) (.cons (.var 2) (.cons (.con (.int 0)) .nil))))))) (.cons (.ret (.con (.bl false))) .nil) .nil) (.cons (.ifs (.cmp .Gt (.var 8) (.var 5)) (.cons (.ret (.ajB (.cons (.cmp .Eq (.call 7 (.cons (.var 6) (.cons (.var 3) (.cons (.var 2) (.cons (.var 8) .nil))))) (.tup (.cons (.con (.str "refused")) (.cons (.con (.int 5)) .nil)))) (.cons (.call 6 (.cons (.var 6) (.cons (.var 3) (.cons (.var 2) (.cons (.con (.int 0)) .nil))))) .nil)))) .nil) .nil) (.cons (.ifs (.or (.cons (.cmp .IsNot (.call 7 (.cons (.var 6) (.cons (.var 3) (.cons (.var 2) (.cons (.var 8) .nil))))) (.con .non)) (.cons (.not (.val (.call 6 (.cons (.var 6) (.cons (.var 3) (.cons (.var 2) (.cons (.var 8) .nil))))))) .nil))) (.cons (.ret (.con (.bl false))) .nil) .nil) (.cons (.set 9 (.call 1 (.cons (.var 0) (.cons (.con (.int 6)) .nil)))) (.cons (.set 10 (.call 5 (.cons (.bin .Pow (.con (.int 10)) (.con (.int 6))) (.cons (.ix (.lst (.cons (.var 8) (.cons (.bin .Add (.var 8) (.con (.int 1))) (.cons (.bin .Add (.con (.int 1)) (.bin .Mod (.bin .FloorDiv (.var 9) (.con (.int 4))) (.var 8))) (.cons (.con (.int 1)) .nil))))) (.bin .Mod (.var 9) (.con (.int 4)))) .nil)))) (.cons (.ifs (.cmp .Gt (.var 10) (.var 8)) (.cons (.ret (.ajB (.cons (.cmp .Eq (.call 8 (.cons (.var 6) (.cons (.var 3) (.cons (.var 2) (.cons (.var 10) .nil))))) (.tup (.cons (.con (.str "refused")) (.cons (.con (.int 4)) .nil)))) (.cons (.call 6 (.cons (.var 6) (.cons (.var 3) (.cons (.var 2) (.cons (.var 8) .nil))))) .nil)))) .nil) .nil) (.cons (.ifs (.or (.cons (.cmp .IsNot (.call 8 (.cons (.var 6) (.cons (.var 3) (.cons (.var 2) (.cons (.var 10) .nil))))) (.con .non)) (.cons (.not (.val (.call 6 (.cons (.var 6) (.cons (.var 3) (.cons (.var 2) (.cons (.bin .Sub (.var 8) (.var 10)) .nil))))))) .nil))) (.cons (.ret (.con (.bl false))) .nil) .nil) (.cons (.ret (.ajB (.cons (.cmp .Is (.call 7 (.cons (.var 6) (.cons (.var 3) (.cons (.var 2) (.cons (.var 10) .nil))))) (.con .non)) (.cons (.call 6 (.cons (.var 6) (.cons (.var 3) (.cons (.var 2) (.cons (.var 8) .nil))))) .nil)))) .nil)))))))))))))))))
def ay0 (K:Fg) (A:c7):SI:=⟨["_law_script", "_law_plan_here", "_law_spot_here", "_law_lot", "_law_cell", "_law_room", "_law_shelves", "_law_more", "_law_amount", "_law_less", "_law_taken_here"],[true,true,true,true,true,true,true,true,true,true,true],[true,true,true,true,true,true,true,true,true,true,true],[false,false,false,false,false,false,false,false,false,false,false],[("_law_plan",.fn (zB K A) 2 false),("_law_cell_at",.fn (bR K A) 2 false),("_law_spot",.fn (zE K A) 2 false),("Shelves",.kl A.aD (eZ K A) []),("Shelves",.kl A.aD (eZ K A) [.int 1000]),("min",.bf .min),("_law_told",.fn (gF K A) 4 false),("_law_put",.fn (pJ K A) 4 false),("_law_taken",.fn (qX K A) 4 false)],[true,true,true,true,true,true,true,true,true],true⟩
structure Txt (K:Fg) (mg:Str→Option Value) (A:c7):Prop where
  apH:Fun K "_wall" "_wall" tV A.a5L A.apD
  ay1:Binds K A.apD ["k"] []
  ay2:mg "_wall" = some (.ref A.a5L)
  vC:Fun K "is_whole" "is_whole" jB A.rP A.abU
  a07:Binds K A.abU ["thing", "least", "most"] []
  a08:mg "is_whole" = some (.ref A.rP)
  af9:Fun K "is_pair" "is_pair" m9 A.uW A.af6
  an8:Binds K A.af6 ["thing", "aisles", "first", "last"] []
  an9:mg "is_pair" = some (.ref A.uW)
  a8H:Fun K "is_amount" "is_amount" gH A.oZ A.a8B
  agI:Binds K A.a8B ["thing"] []
  agJ:mg "is_amount" = some (.ref A.oZ)
  afA:Fun K "is_plan" "is_plan" mD A.uX A.af7
  anA:Binds K A.af7 ["thing"] []
  anB:mg "is_plan" = some (.ref A.uX)
  a1M:Fun K "need_plan" "need_plan" gJ A.p7 A.a8C
  a8I:Binds K A.a8C ["plan"] []
  a8J:mg "need_plan" = some (.ref A.p7)
  ajP:Fun K "is_bin" "is_bin" oX A.zW A.ajG
  asU:Binds K A.ajG ["plan", "thing"] []
  asV:mg "is_bin" = some (.ref A.zW)
  vD:Fun K "need_lot" "need_lot" jC A.rQ A.abV
  a09:Binds K A.abV ["thing", "lots"] []
  a0A:mg "need_lot" = some (.ref A.rQ)
  sJ:Fun K "need_bin" "need_bin" jD A.rR A.abW
  vG:Binds K A.abW ["plan", "thing"] []
  vH:mg "need_bin" = some (.ref A.rR)
  qY:Fun K "need_amount" "need_amount" d9 A.lO A.a2R
  wG:Binds K A.a2R ["thing"] []
  wH:mg "need_amount" = some (.ref A.lO)
  ad6:Fun K "change" "change" oY A.zX A.ajH
  ajQ:Binds K A.ajH ["stacks", "spot", "lot", "more"] []
  ajR:mg "change" = some (.ref A.zX)
  ac0:Fun K "in_order" "in_order" jE A.rT A.abX
  ajS:Binds K A.abX ["stacks"] []
  ajT:mg "in_order" = some (.ref A.rT)
  a0B:Fun K "__init__" "Shelves.__init__" bK A.cF A.nC
  a0C:Binds K A.nC ["self", "plan", "room"] []
  ac1:Meth K A.aD "__init__" A.cF
  a0D:∃ t,Binds K A.nC ["self", "plan", "room"] [.int 1000 t]
  a4B:Fun K "filled" "Shelves.filled" bU A.fM A.uY
  vI:Binds K A.uY ["self", "spot"] []
  vJ:Meth K A.aD "filled" A.fM
  yI:Fun K "need_room" "Shelves.need_room" bC A.cW A.qO
  yJ:Binds K A.qO ["self", "spot", "amount"] []
  yK:Meth K A.aD "need_room" A.cW
  abA:Fun K "put" "Shelves.put" dB A.lQ A.a2S
  abB:Binds K A.a2S ["self", "lot", "spot", "amount"] []
  abC:Meth K A.aD "put" A.lQ
  a4C:Fun K "amount" "Shelves.amount" bV A.fO A.uZ
  vK:Binds K A.uZ ["self", "lot", "spot"] []
  vL:Meth K A.aD "amount" A.fO
  wX:Fun K "need_there" "Shelves.need_there" aZ A.cQ A.p8
  wY:Binds K A.p8 ["self", "lot", "spot", "amount"] []
  wZ:Meth K A.aD "need_there" A.cQ
  a8K:Fun K "take" "Shelves.take" cN A.jG A.zY
  a8L:Binds K A.zY ["self", "lot", "spot", "amount"] []
  a8M:Meth K A.aD "take" A.jG
  a78:Fun K "shift" "Shelves.shift" cG A.iH A.xU
  ahM:Binds K A.xU ["self", "lot", "one", "other", "amount"] []
  ahN:Meth K A.aD "shift" A.iH
  a8N:Fun K "held" "Shelves.held" cO A.jH A.zZ
  a8O:Binds K A.zZ ["self", "spot"] []
  a8P:Meth K A.aD "held" A.jH
  a4D:Fun K "places" "Shelves.places" bW A.fP A.v7
  a4E:Binds K A.v7 ["self", "lot"] []
  a4F:Meth K A.aD "places" A.fP
  a79:Fun K "lying" "Shelves.lying" cH A.iI A.xV
  a7A:Binds K A.xV ["self"] []
  a7B:Meth K A.aD "lying" A.iI
  u6:Fun K "_law_cell_at" "_law_cell_at" cP A.jJ A.a00
  a0E:Binds K A.a00 ["_law_script", "_law_k"] []
  a0F:mg "_law_cell_at" = some (.ref A.jJ)
  a66:Fun K "_law_whole" "_law_whole" eF A.nD A.a5M
  ad7:Binds K A.a5M ["_law_found"] []
  ad8:mg "_law_whole" = some (.ref A.nD)
  a8Q:Fun K "_law_plan" "_law_plan" gK A.pA A.a8D
  agK:Binds K A.a8D ["_law_script", "_law_k"] []
  agL:mg "_law_plan" = some (.ref A.pA)
  a8R:Fun K "_law_spot" "_law_spot" gM A.pB A.a8E
  agM:Binds K A.a8E ["_law_plan_here", "_law_cell"] []
  agN:mg "_law_spot" = some (.ref A.pB)
  wI:Fun K "_law_raised" "_law_raised" dD A.lR A.a2T
  a2X:Binds K A.a2T ["_law_e"] []
  a2Y:mg "_law_raised" = some (.ref A.lR)
  a8S:Fun K "_law_told" "_law_told" gO A.pC A.a8F
  agO:Binds K A.a8F ["_law_shelves", "_law_lot", "_law_spot_here", "_law_due"] []
  agP:mg "_law_told" = some (.ref A.pC)
  ac2:Fun K "_law_put" "_law_put" jF A.rW A.abY
  ajU:Binds K A.abY ["_law_shelves", "_law_lot", "_law_spot_here", "_law_amount"] []
  ajV:mg "_law_put" = some (.ref A.rW)
  a67:Fun K "_law_taken" "_law_taken" eG A.nF A.a5N
  ad9:Binds K A.a5N ["_law_shelves", "_law_lot", "_law_spot_here", "_law_amount"] []
  adA:mg "_law_taken" = some (.ref A.nF)
  aL4:Fun K "law" "law" a8A A.agE A.aDK
  aVH:Binds K A.aDK ["_law_script"] []
  aVI:mg "law" = some (.ref A.agE)
  aX:Cls K A.aD
  ac3:Mk K A.aD A.cF
  ac4:mg "Shelves" = some (.ref A.aD)
  eV:uU K A.aD "layout"
  xW:uU K A.aD "room"
  cJ:uU K A.aD "stacks"
  a68:mg "DepotError" = some (.ref A.aK)
  nP:PySem.W.excIn K A.aK BMv "ValueError.__new__" = true
  j4:(PySem.W.clsIn K A.aK).isSome=true
  lX:PySem.W.typeIn K (.ref A.aK)=some (.type "type")
  j5:PySem.W.subIn K (.ref A.aK) (.type "BaseException")=some true
  apI:ExC K A.aK
  qZ:PySem.W.kitOne K (.ref A.aK) (.type "ValueError")=some true
  ajW:mg "NoPlan" = some (.ref A.bO)
  a0G:PySem.W.excIn K A.bO BMv "ValueError.__new__" = true
  sY:(PySem.W.clsIn K A.bO).isSome=true
  vM:PySem.W.typeIn K (.ref A.bO)=some (.type "type")
  sZ:PySem.W.subIn K (.ref A.bO) (.type "BaseException")=some true
  aDM:ExC K A.bO
  a4G:PySem.W.kitOne K (.ref A.bO) (.type "ValueError")=some true
  apJ:mg "NoBin" = some (.ref A.cL)
  a69:PySem.W.excIn K A.cL BMv "ValueError.__new__" = true
  xA:(PySem.W.clsIn K A.cL).isSome=true
  a0H:PySem.W.typeIn K (.ref A.cL)=some (.type "type")
  xB:PySem.W.subIn K (.ref A.cL) (.type "BaseException")=some true
  aJJ:ExC K A.cL
  a8T:PySem.W.kitOne K (.ref A.cL) (.type "ValueError")=some true
  apK:mg "NoLot" = some (.ref A.cM)
  a6A:PySem.W.excIn K A.cM BMv "ValueError.__new__" = true
  xC:(PySem.W.clsIn K A.cM).isSome=true
  a0I:PySem.W.typeIn K (.ref A.cM)=some (.type "type")
  xD:PySem.W.subIn K (.ref A.cM) (.type "BaseException")=some true
  aJK:ExC K A.cM
  a8U:PySem.W.kitOne K (.ref A.cM) (.type "ValueError")=some true
  ac5:mg "NoAmount" = some (.ref A.aW)
  sO:PySem.W.excIn K A.aW BMv "ValueError.__new__" = true
  mZ:(PySem.W.clsIn K A.aW).isSome=true
  pK:PySem.W.typeIn K (.ref A.aW)=some (.type "type")
  n6:PySem.W.subIn K (.ref A.aW) (.type "BaseException")=some true
  avO:ExC K A.aW
  xE:PySem.W.kitOne K (.ref A.aW) (.type "ValueError")=some true
  ajX:mg "NoRoom" = some (.ref A.bH)
  a0J:PySem.W.excIn K A.bH BMv "ValueError.__new__" = true
  tD:(PySem.W.clsIn K A.bH).isSome=true
  vN:PySem.W.typeIn K (.ref A.bH)=some (.type "type")
  tE:PySem.W.subIn K (.ref A.bH) (.type "BaseException")=some true
  asW:ExC K A.bH
  zO:PySem.W.kitOne K (.ref A.bH) (.type "ValueError")=some true
  a8V:mg "TooLittle" = some (.ref A.aM)
  pL:PySem.W.excIn K A.aM BMv "ValueError.__new__" = true
  lD:(PySem.W.clsIn K A.aM).isSome=true
  nQ:PySem.W.typeIn K (.ref A.aM)=some (.type "type")
  lE:PySem.W.subIn K (.ref A.aM) (.type "BaseException")=some true
  agQ:ExC K A.aM
  qN:PySem.W.kitOne K (.ref A.aM) (.type "ValueError")=some true
  dM:PySem.W.kitOne K (.ref A.aK) (.ref A.aK)=some true
  dN:PySem.W.subIn K (.ref A.aK) (.ref A.aK)=some true
  fH:PySem.W.kitOne K (.ref A.aK) (.ref A.aW)=some false
  jN:PySem.W.kitOne K (.ref A.aK) (.ref A.cL)=some false
  jO:PySem.W.kitOne K (.ref A.aK) (.ref A.cM)=some false
  iM:PySem.W.kitOne K (.ref A.aK) (.ref A.bO)=some false
  iQ:PySem.W.kitOne K (.ref A.aK) (.ref A.bH)=some false
  eX:PySem.W.kitOne K (.ref A.aK) (.ref A.aM)=some false
  iR:PySem.W.kitOne K (.ref A.bO) (.ref A.aK)=some true
  iT:PySem.W.subIn K (.ref A.bO) (.ref A.aK)=some true
  lF:PySem.W.kitOne K (.ref A.bO) (.ref A.aW)=some false
  pN:PySem.W.kitOne K (.ref A.bO) (.ref A.cL)=some false
  pO:PySem.W.kitOne K (.ref A.bO) (.ref A.cM)=some false
  nY:PySem.W.kitOne K (.ref A.bO) (.ref A.bO)=some true
  nZ:PySem.W.kitOne K (.ref A.bO) (.ref A.bH)=some false
  jP:PySem.W.kitOne K (.ref A.bO) (.ref A.aM)=some false
  jQ:PySem.W.kitOne K (.ref A.cL) (.ref A.aK)=some true
  jR:PySem.W.subIn K (.ref A.cL) (.ref A.aK)=some true
  mH:PySem.W.kitOne K (.ref A.cL) (.ref A.aW)=some false
  rA:PySem.W.kitOne K (.ref A.cL) (.ref A.cL)=some true
  rB:PySem.W.kitOne K (.ref A.cL) (.ref A.cM)=some false
  pP:PySem.W.kitOne K (.ref A.cL) (.ref A.bO)=some false
  pQ:PySem.W.kitOne K (.ref A.cL) (.ref A.bH)=some false
  lG:PySem.W.kitOne K (.ref A.cL) (.ref A.aM)=some false
  jT:PySem.W.kitOne K (.ref A.cM) (.ref A.aK)=some true
  jU:PySem.W.subIn K (.ref A.cM) (.ref A.aK)=some true
  mJ:PySem.W.kitOne K (.ref A.cM) (.ref A.aW)=some false
  rC:PySem.W.kitOne K (.ref A.cM) (.ref A.cL)=some false
  rD:PySem.W.kitOne K (.ref A.cM) (.ref A.cM)=some true
  pR:PySem.W.kitOne K (.ref A.cM) (.ref A.bO)=some false
  pU:PySem.W.kitOne K (.ref A.cM) (.ref A.bH)=some false
  lH:PySem.W.kitOne K (.ref A.cM) (.ref A.aM)=some false
  fJ:PySem.W.kitOne K (.ref A.aW) (.ref A.aK)=some true
  fK:PySem.W.subIn K (.ref A.aW) (.ref A.aK)=some true
  iU:PySem.W.kitOne K (.ref A.aW) (.ref A.aW)=some true
  mK:PySem.W.kitOne K (.ref A.aW) (.ref A.cL)=some false
  mL:PySem.W.kitOne K (.ref A.aW) (.ref A.cM)=some false
  lJ:PySem.W.kitOne K (.ref A.aW) (.ref A.bO)=some false
  lK:PySem.W.kitOne K (.ref A.aW) (.ref A.bH)=some false
  gR:PySem.W.kitOne K (.ref A.aW) (.ref A.aM)=some false
  iV:PySem.W.kitOne K (.ref A.bH) (.ref A.aK)=some true
  f9:PySem.W.subIn K (.ref A.bH) (.ref A.aK)=some true
  iB:PySem.W.kitOne K (.ref A.bH) (.ref A.aW)=some false
  mQ:PySem.W.kitOne K (.ref A.bH) (.ref A.cL)=some false
  mR:PySem.W.kitOne K (.ref A.bH) (.ref A.cM)=some false
  jY:PySem.W.kitOne K (.ref A.bH) (.ref A.bO)=some false
  jZ:PySem.W.kitOne K (.ref A.bH) (.ref A.bH)=some true
  fW:PySem.W.kitOne K (.ref A.bH) (.ref A.aM)=some false
  eY:PySem.W.kitOne K (.ref A.aM) (.ref A.aK)=some true
  cT:PySem.W.subIn K (.ref A.aM) (.ref A.aK)=some true
  dO:PySem.W.kitOne K (.ref A.aM) (.ref A.aW)=some false
  iC:PySem.W.kitOne K (.ref A.aM) (.ref A.cL)=some false
  iD:PySem.W.kitOne K (.ref A.aM) (.ref A.cM)=some false
  fX:PySem.W.kitOne K (.ref A.aM) (.ref A.bO)=some false
  fY:PySem.W.kitOne K (.ref A.aM) (.ref A.bH)=some false
  d7:PySem.W.kitOne K (.ref A.aM) (.ref A.aM)=some true
  oA:∃ t,mg "MOST_AISLES" = some (.int 26 t)
  oE:∃ t,mg "MOST_PLACES" = some (.int 99 t)
  oF:∃ t,mg "MOST_AMOUNT" = some (.int 1000000 t)
  vO:∃ t,mg "MOST_GAP" = some (.int 20 t)
  lM:∃ t,mg "MOST_LOTS" = some (.int 1000 t)
  adB:mg "ValueError" = none
  avP:mg "bool" = none
  aDN:mg "dict" = none
  ay3:mg "int" = none
  nR:mg "isinstance" = none
  anC:mg "len" = none
  aDO:mg "list" = none
  aL5:mg "min" = none
  a8W:mg "sorted" = none
  aL6:mg "sum" = none
  aiE:mg "tuple" = none
end Law
namespace Law
open PySem PySem.Spec PyProof.Rows L2 L4 L5 L6
local macro_rules | `(tactic| walk_at "wp")=>`(tactic| first | (simp (maxSteps:=2000000) (implicitDefEqProofs:=false) (disch:=first | rfl | decide | assumption | omega) only [L5.aUI,L5.aPI,L5.aUJ,L5.aPJ,L5.aPK,L5.aUK,L5.aPL,L5.aUL,L5.aUM,L5.x_raise,L5.x_c,L5.aPM,L5.aPN,L5.aYQ,L5.aPO,L5.aID,L5.aUO,L5.aYR,L5.aUP,L5.aPP,L5.aUQ,L5.aPQ,L5.aUR,L5.aUS,L5.aUT,L5.aPR,L5.aUU,L5.aUV,L5.aUW,L5.x_call,L5.aYS,L5.x_m,L5.aYT,L5.aIE,L5.aD4,L5.aPS,L5.aIG,L5.aV1,L5.aPZ,L5.aUN,L5.aP7,L5.aHR,L5.aD5,L5.aD6,L5.aUX,L5.aPV,L5.aPW,L5.aJ1,L5.aPX,L5.aPY,L5.x_lt,L5.aYU,L5.x_ge,L5.aYV,L5.aPU,L5.aIH,L5.avB,L5.aII,L5.aIJ,L5.aIK,L5.aIL,L5.aIM,L5.aIN,L5.aIO,L5.aIP,L5.aIQ,L5.aIR,L5.aV0,L5.aIS,L5.aIT,L5.aIU,L5.aIV,L5.azL,L5.azM,L5.bT,L5.aIY,L5.aIZ,L5.aJ0,L5.aP8,L5.aP9,L5.aPA,L5.aPB,L5.aPC,L5.aPD,L5.aPE,L5.aPF,L5.aPG,L5.aPH,L5.aHS,L5.aHT,L5.aHU,L5.aHV,L5.aHW,L5.aHX,L5.aHY,L5.aHZ,L5.aI0,L5.aI1,L5.aI2,L5.aI3,L5.aI4,L5.aI5,L5.aI6,L5.aI7,L5.aI8,L5.aI9,L5.aIA,L5.aIB,L5.aIC,L5.as8,L5.aoX,L5.as9,L5.aoY,L5.alO,L5.aoZ,L5.avD,L5.asA,L5.avE,L5.asB,L5.ap0,L5.asC,L5.asD,L5.ap1,L5.asF,L5.ap2,L5.alP,L5.ap3,L5.asG,L5.ap4,L5.asH,L5.ap5,L5.alQ,L5.ap6,L5.asI,L5.ap7,L5.asJ,L5.ap8,L5.alR,L5.ap9,L5.avI,L5.avJ,L5.avK,L5.azN,L5.azO,L5.avL,L5.asK,L5.aDA,L5.azP,L5.avM,L5.aV3,L5.aV4,L5.aQ0,L5.avN,L5.azQ,L5.azR,L6.aJ2,L6.aV5,L6.aQ2,L6.aQ3,L6.aDC,L6.aDD,L6.azS,L6.aJ3,L6.aJ4,L6.aQ4,L6.aQ6,L6.aJ5,L6.aQ7,L6.aJ6,L6.aV8,L6.aV9,L6.aDG,L6.aQ8,L6.aVB,L6.aVC,L6.aJ7,L6.aJ8,L6.aJ9,L6.aJA,L6.aVD,L6.aQ1,L6.aV6,L8.aVG,L8.aQC,L8.aJB,L8.aJC,L8.aYY,L8.aJD,L9.aJE,L9.aQD,L9.aQE,L7.aQ9,L7.aVE,L7.aQA,L7.aQB,L7.aVF,reduceIte,reduceCtorEq];try dsimp only [L5.aD0,L5.aD1,L5.aD2,L5.aD3,L6.axM]) | dsimp only [L5.aD0,L5.aD1,L5.aD2,L5.aD3,L6.axM])
local macro_rules | `(tactic| exists $ls,*)=>`(tactic| (simp (implicitDefEqProofs:=false) only [$[$ls:term],*];repeat (first | (walk_at "wp") | (simp (implicitDefEqProofs:=false) only [$[$ls:term],*]))))
local macro_rules | `(tactic| walk_at "wr")=>`(tactic| repeat (walk_at "wp"))
section
variable {K:Fg} {A:c7} {G:Gp} {R:oK} {EX:bM} {mg:Str→Option Value}
open L7 L8 L9
def cellAt (ns:List Int) (k:Nat):Int:=if k < ns.length then ns.getD k 0 else if ns=[] then 0 else
  let m:=(ns.getD (k % ns.length) 0 * 48271+k * 104729) % 2147483647
  (m * m+48271 * k) % 2147483629
theorem a8X {a:Addr} {ns:List Int} (hG:G a=some (.rol (ns.map D.int))) {k:Nat} (hk:k < 1000) (h:R (.int (cellAt ns k)) G):bR K A [.ref a,.int (k:Int)] G R EX:=by
  refine ⟨rfl,?_⟩
  replace h:=bN.here h
  show u0 K A _ _ [some (.ref a),some (.int k),none] G
  exists u0,aoW (a89 hG)
  by_cases c:k < ns.length
  · rw [if_pos (decide_eq_true (by omega))]
    have e:atI (ns.map D.int) (k:Int)=some (.int (ns.getD k 0)):=by rw [a2Q];simp [c,List.getD]
    rw [a88 (a89 hG) e]
    rw [show cellAt ns k=ns.getD k 0 by unfold cellAt;rw [if_pos c]] at h
    exact h
  · rw [if_neg (by simp;omega)]
    exists a4A
    intro p hp
    rw [a5H (a89 (kZ hG hp)) bT (by simp [aO]) rfl]
    obtain ⟨G0,l,h⟩:=h
    by_cases hn:ns=[]
    · subst hn
      rw [show cellAt [] k=0 by unfold cellAt;simp] at h
      simp only [List.map_nil,rN]
      walk_at "wr"
      exact ⟨G0,l.trans (.new hp),h⟩
    · have e0:rN (ns.map D.int) []=false:=by cases ns with
        | nil=>exact absurd rfl hn
        | cons n r=>rfl
      have h0:0 < (ns.length:Int):=by cases ns with
        | nil=>exact absurd rfl hn
        | cons n r=>simp
      simp only [e0]
      exists a3Z,aoW (a89 (kZ hG hp))
      have hm:k % ns.length < ns.length:=Nat.mod_lt _ (by omega)
      have e2:atI (ns.map D.int) ((k:Int) % (ns.length:Int))=some (.int (ns.getD (k % ns.length) 0)):=by
        rw [← Int.natCast_emod,a2Q];simp [hm,List.getD]
      rw [a88 (a89 (kZ hG hp)) e2]
      exists a3Y
      refine ⟨G0,l.trans (.new hp),?_⟩
      have ec:cellAt ns k=((ns.getD (k % ns.length) 0 * 48271+(k:Int) * 104729) % 2147483647 * ((ns.getD (k % ns.length) 0 * 48271+(k:Int) * 104729) % 2147483647)+48271 * (k:Int)) % 2147483629:=by
        unfold cellAt
        rw [if_neg c,if_neg hn]
      rw [← ec]
      exact h
def isW (d:D) (a b:Int):Bool:=match d with
  | .int i=>decide (a≤i)&&decide (i≤b)
  | _=>false
theorem sS {d:D} {a b:Int} (hd:kn G d) (h:R (.bl (isW d a b)) G):dI K A [d,.int a,.int b] G R EX:=by
  refine ⟨rfl,?_⟩
  replace h:=bN.here h
  show a01 K A _ _ [some d,some (.int a),some (.int b)] G
  cases d
  case ref q=>exists a01,avG hd;exact h
  case ty n=>simp [kn,tyD] at hd
  all_goals exists a01
  case int i =>
    by_cases c:a≤i
    · simp only [c,decide_true,if_true]
      simpa [isW,c] using h
    · simp only [c,decide_false,Bool.false_eq_true,if_false]
      simpa [isW,c] using h
  all_goals exact h
def isP (d:D) (n a b:Int):Bool:=match d with
  | .tup [x,y]=>isW x 0 (n - 1)&&isW y a b
  | _=>false
theorem azU {d:D} {n a b:Int} (hd:kn G d) (hc:∀ x y,d = .tup [x,y]→kn G x∧kn G y) (h:R (.bl (isP d n a b)) G):a5Q K A [d,.int n,.int a,.int b] G R EX:=by
  refine ⟨rfl,?_⟩
  replace h:=bN.here h
  show zM K A _ _ [some d,some (.int n),some (.int a),some (.int b)] G
  cases d
  case ref q=>exists zM,ad1 hd;exact h
  case ty n=>simp [kn,tyD] at hd
  case tup xs =>
    exists zM
    match xs,h,hc with
    | [],h,_=>exact h
    | [x],h,_=>exact h
    | x :: y :: z :: r,h,_ =>
      have e:((((x :: y :: z :: r).length:Nat):Int) == 2)=false:=by simp;omega
      simp only [e]
      exact h
    | [x,y],h,hc =>
      obtain ⟨h1,h2⟩:=hc x y rfl
      exists agF
      refine sS h1 ?_
      walk_at "wr"
      refine aaF (fun e=>sS h2 ?_) fun e=>?_
      · simpa [isP,e] using h
      · simpa [isP,e] using h
  all_goals exists zM
  all_goals exact h
theorem aYZ {d:D} {n a b:Int} (h:isP d n a b=true):∃ i j:Int,d = .tup [.int i,.int j]∧0≤i∧i≤n - 1∧a≤j∧j≤b:=by
  unfold isP at h
  split at h
  · rename_i x y
    rw [Bool.and_eq_true] at h
    obtain ⟨h1,h2⟩:=h
    unfold isW at h1 h2
    split at h1
    · split at h2
      · simp only [Bool.and_eq_true,decide_eq_true_eq] at h1 h2
        exact ⟨_,_,rfl,h1.1,h1.2,h2.1,h2.2⟩
      · cases h2
    · cases h1
  · cases h
theorem aQG {i j n a b:Int}:isP (.tup [.int i,.int j]) n a b=(decide (0≤i)&&decide (i≤n - 1)&&(decide (a≤j)&&decide (j≤b))):=rfl
def asY (d:D):Bool:=match d with
  | .tup [x,y,z]=>isW x 1 26&&(isW y 1 99&&isW z 1 20)
  | _=>false
theorem azV {d:D} (hd:kn G d) (hc:∀ x y z,d = .tup [x,y,z]→kn G x∧kn G y∧kn G z) (h:R (.bl (asY d)) G):a5R K A [d] G R EX:=by
  refine ⟨rfl,?_⟩
  replace h:=bN.here h
  show zN K A _ _ [some d] G
  cases d
  case ref q=>exists zN,ad1 hd;exact h
  case ty n=>simp [kn,tyD] at hd
  case tup xs =>
    exists zN
    match xs,h,hc with
    | [],h,_=>exact h
    | [x],h,_=>exact h
    | [x,y],h,_=>exact h
    | x :: y :: z :: w :: r,h,_ =>
      have e:((((x :: y :: z :: w :: r).length:Nat):Int) == 3)=false:=by simp;omega
      simp only [e]
      exact h
    | [x,y,z],h,hc =>
      obtain ⟨h1,h2,h3⟩:=hc x y z rfl
      exists agH
      refine sS h1 ?_
      walk_at "wr"
      refine ayU (fun e=>?_) fun e=>?_
      · simpa [asY,e] using h
      · have e:isW x 1 26=true:=by simpa using e
        refine sS h2 ?_
        walk_at "wr"
        refine ayU (fun e2=>?_) fun e2=>?_
        · simpa [asY,e2] using h
        · have e2:isW y 1 99=true:=by simpa using e2
          exists agG
          refine sS h3 ?_
          simpa [asY,e,e2] using h
  all_goals exists zN
  all_goals exact h
theorem asZ {d:D} (hd:kn G d) (hc:∀ x y z,d = .tup [x,y,z]→kn G x∧kn G y∧kn G z) (h0:asY d=false→EX A.bO G) (h1:asY d=true→R .non G):nG K A [d] G R EX:=by
  refine ⟨rfl,?_⟩
  show a1F K A _ _ [some d] G
  exists a1F
  refine azV hd hc ?_
  walk_at "wr"
  exact ayU (fun e=>a87.here (h0 e)) fun e=>bN.here (h1 (by simpa using e))
def plD (x y g:Nat):D := .tup [.int x,.int y,.int g]
structure OkP (x y g:Nat):Prop where
  x0:1≤x
  x1:x≤26
  y0:1≤y
  y1:y≤99
  g0:1≤g
  g1:g≤20
theorem aJM {x y g:Nat} (o:OkP x y g):asY (plD x y g)=true:=by
  obtain ⟨_,_,_,_,_,_⟩:=o
  simp [asY,plD,isW]
  omega
theorem anE {x y g:Nat} (o:OkP x y g) (h:R .non G):nG K A [plD x y g] G R EX :=
  asZ aD8 (fun a b c e=>by cases e;exact ⟨rfl,rfl,rfl⟩) (fun e=>by rw [aJM o] at e;cases e) fun _=>h
theorem aVJ {p:Addr} {i j:Int} {b:Bool} (h:∀ k,(k=i∨k=j)→R (.int k) (aQ G p (.lst [.int i,.int j]))):tO (.ref p) (.int (if b=true then 1 else 0)) (aQ G p (.lst [.int i,.int j])) R:=by
  refine apA bT (by split <;> decide) (by simp;split <;> decide) ?_
  exact all_cons (h _ (.inl rfl)) (all_cons (h _ (.inr rfl)) all_nil)
theorem aQH {a:Addr} {ns:List Int} (hG:G a=some (.rol (ns.map D.int))) {k:Nat} (hk:k < 900) (h:∀ x y g:Nat,OkP x y g→R (plD x y g) G):zB K A [.ref a,.int (k:Int)] G R EX:=by
  refine ⟨rfl,?_⟩
  show a1H K A _ _ [some (.ref a),some (.int k),none,none,none,none] G
  exists a1H
  refine a8X (k:=k) hG (by omega) ?_
  exists ab7
  rw [show (k:Int)+1=((k+1:Nat):Int) by omega]
  refine a8X (k:=k+1) hG (by omega) ?_
  generalize cellAt ns k=c
  generalize cellAt ns (k+1)=c2
  exists ab6
  intro p hp
  refine aVJ fun x hx=>?_
  exists ab5
  intro p2 hp2
  refine aVJ fun y hy=>?_
  exists ab4
  have z:=aIX (h x.toNat y.toNat (1+c / 104 % 20).toNat ⟨by omega,by omega,by omega,by omega,by omega,by omega⟩) ((Le.new (o := .lst [D.int (1+c % 4),D.int (1+c % 26)]) hp).trans (.new (o := .lst [D.int (1+c2 % 6),D.int (1+c2 % 99)]) hp2))
  unfold plD at z
  rw [Int.toNat_of_nonneg (by omega),Int.toNat_of_nonneg (by omega),Int.toNat_of_nonneg (by omega)] at z
  exact z
theorem avQ {d:D} (hd:kn G d) (h0:isW d 0 999=false→EX A.cM G) (h1:isW d 0 999=true→R .non G):gP K A [d,.int 1000] G R EX:=by
  refine ⟨rfl,?_⟩
  show a5S K A _ _ [some d,some (.int 1000)] G
  exists a5S
  refine sS hd ?_
  walk_at "wr"
  exact ayU (fun e=>a87.here (h0 e)) fun e=>bN.here (h1 (by simpa using e))
theorem at4 {d:D} (hd:kn G d) (h:R (.bl (isW d 1 1000000)) G):z8 K A [d] G R EX:=by
  refine ⟨rfl,?_⟩
  show a1D K A _ _ [some d] G
  exists a1D
  exact sS hd (bN.here h)
theorem alS {d:D} (hd:kn G d) (h0:isW d 1 1000000=false→EX A.aW G) (h1:isW d 1 1000000=true→R .non G):eN K A [d] G R EX:=by
  refine ⟨rfl,?_⟩
  show w6 K A _ _ [some d] G
  exists w6
  refine at4 hd ?_
  walk_at "wr"
  exact ayU (fun e=>a87.here (h0 e)) fun e=>bN.here (h1 (by simpa using e))
theorem aDP {x y g:Nat} (o:OkP x y g) {d:D} (hd:kn G d) (hc:∀ x y,d = .tup [x,y]→kn G x∧kn G y) (h:R (.bl (isP d x 1 y)) G):aaI K A [plD x y g,d] G R EX:=by
  refine ⟨rfl,?_⟩
  show ad3 K A _ _ [some (plD x y g),some d] G
  exists ad3
  refine anE o ?_
  unfold plD
  exists ajJ
  exact azU hd hc (bN.here h)
theorem avR {x y g:Nat} (o:OkP x y g) {d:D} (hd:kn G d) (hc:∀ x y,d = .tup [x,y]→kn G x∧kn G y) (h0:isP d x 1 y=false→EX A.cL G) (h1:isP d x 1 y=true→R .non G):dJ K A [plD x y g,d] G R EX:=by
  refine ⟨rfl,?_⟩
  show a5U K A _ _ [some (plD x y g),some d] G
  exists a5U
  refine aDP o hd hc ?_
  walk_at "wr"
  exact ayU (fun e=>a87.here (h0 e)) fun e=>bN.here (h1 (by simpa using e))
structure OkB (x y:Nat) (a p:Int):Prop where
  a0:0≤a
  a1:a < x
  p0:1≤p
  p1:p≤y
theorem a8Y {l:Int} (hl:0≤l∧l≤999) (h:R .non G):gP K A [.int l,.int 1000] G R EX:=avQ rfl (fun e=>by simp [isW] at e;omega) fun _=>h
theorem ajY {l:Int} (hl:1≤l∧l≤1000000) (h:R .non G):eN K A [.int l] G R EX:=alS rfl (fun e=>by simp [isW] at e;omega) fun _=>h
theorem a8Z {x y g:Nat} (o:OkP x y g) {a p:Int} (b:OkB x y a p) (h:R .non G):dJ K A [plD x y g,.tup [.int a,.int p]] G R EX:=by
  obtain ⟨b1,b2,b3,b4⟩:=b
  refine avR o aD8 (fun x y e=>by cases e;exact ⟨rfl,rfl⟩) (fun e=>?_) fun _=>h
  rw [aQG] at e
  simp at e
  omega
theorem adC {i v:Int}:∀ {ps:List (Int×Int)},(bD ps i).isSome=true→bD (ps.map fun kv=>if kv.1=i then (kv.1,v) else kv) i=some v
  | [],h=>by cases h
  | z :: ps,h=>by
    rw [List.map_cons]
    by_cases c:z.1=i
    · rw [if_pos c]
      unfold bD
      rw [if_pos c]
    · rw [if_neg c]
      unfold bD at h ⊢
      rw [if_neg c] at h ⊢
      exact adC h
theorem anF {i v:Int}:∀ {ps:List (Int×Int)},bD ps i=none→bD (ps++[(i,v)]) i=some v
  | [],_=>by show (if i=i then some v else none)=_;rw [if_pos rfl]
  | z :: ps,h=>by
    rw [List.cons_append]
    unfold bD at h ⊢
    by_cases c:z.1=i
    · rw [if_pos c] at h;cases h
    · rw [if_neg c] at h ⊢
      exact anF h
theorem ajZ {ps:List (Int×Int)} {i v:Int}:bD (oN ps i v) i=some v:=by
  unfold oN
  split
  · rename_i h
    exact adC h
  · rename_i h
    exact anF (by simpa using h)
theorem aJN {ps:List (Int×Int)} {i v:Int}:(oN ps i v).length≤ps.length+1:=by
  unfold oN
  split
  · rw [List.length_map];omega
  · rw [List.length_append];exact Nat.le_refl _
theorem aQI {ps:List (Int×Int)} {i v:Int}:oN ps i v≠[]:=fun e=>by
  have:=ajZ (ps:=ps) (i:=i) (v:=v)
  rw [e] at this
  cases this
theorem at5 {F:oR} {ex:aY→bM} {st e:Addr} {a p lot more:Int} {ps:List (Int×Int)} (he:G e=some (.dU false (ps.map kpD))) (hl:ps.length < 1000)
    (h1:(bD ps lot).getD 0+more≠0→∀ G',G' e=some (.dU false ((oN ps lot ((bD ps lot).getD 0+more)).map kpD))→(∀ q u,q≠e→G q=some u→G' q=some u)→F.nx [some (.ref st),some (.tup [.int a,.int p]),some (.int lot),some (.int more),some (.ref e)] G')
    (h2:(bD ps lot).getD 0+more=0→∀ G',G' e=some (.dU false ((tR (oN ps lot 0) lot).map kpD))→(∀ q u,q≠e→G q=some u→G' q=some u)→a5W K A ex F [some (.ref st),some (.tup [.int a,.int p]),some (.int lot),some (.int more),some (.ref e)] G') :
    abZ K A ex F [some (.ref st),some (.tup [.int a,.int p]),some (.int lot),some (.int more),some (.ref e)] G:=by
  have big:10000 < sizeLine:=by decide
  exists abZ,qU he
  rw [oW he wQ rfl]
  have eg:(bD (ps.map kpD) (.inl (.inl lot))).getD (.int 0) = .int ((bD ps lot).getD 0):=by
    rw [a5K]
    cases bD ps lot <;> rfl
  rw [eg]
  generalize hv:(bD ps lot).getD 0+more=v at h1 h2
  walk_at "wr"
  rw [hv,axP he wQ rfl (by rw [List.length_map];omega),aJF]
  generalize hG1:aQ G e _=G1
  have e1:G1 e=some (.dU false ((oN ps lot v).map kpD)):=by rw [← hG1,aP]
  have k1:∀ q u,q≠e→G q=some u→G1 q=some u:=fun q u n z=>by rw [← hG1,dW n];exact z
  have lp:=aJN (ps:=ps) (i:=lot) (v:=v)
  exists ajK,qU e1
  rw [ad2 e1 wQ rfl (by rw [a5K,ajZ];rfl)]
  walk_at "wr"
  by_cases c:v=0
  · rw [if_pos (by rw [c];rfl)]
    rw [axO e1 wQ rfl (by rw [a5K,ajZ];rfl),aDH]
    refine ⟨by rw [qU e1];trivial,?_⟩
    refine h2 c (aQ G1 e (.dU false ((tR (oN ps lot v) lot).map kpD))) (by rw [aP,c]) fun q u n z=>?_
    rw [dW n]
    exact k1 q u n z
  · rw [if_neg (by simpa using c)]
    exists a5W
    rw [axN e1]
    walk_at "wr"
    rw [if_neg]
    · exact h1 c G1 e1 k1
    · simpa using aQI (ps:=ps) (i:=lot) (v:=v)
theorem apL {st:Addr} {M:List (List Key×Addr)} {a p lot more:Int} (hs:G st=some (.dU true (M.map ktD))) (hl:M.length < 1000) (hk:bD M (ky a p)=none) (hm:more≠0)
    (h:∀ e G',G e=none→G' st=some (.dU true ((M++[(ky a p,e)]).map ktD))→G' e=some (.dU false ([(lot,more)].map kpD))→(∀ q u,q≠st→G q=some u→G' q=some u)→R .non G'):qH K A [.ref st,.tup [.int a,.int p],.int lot,.int more] G R EX:=by
  have big:10000 < sizeLine:=by decide
  refine ⟨rfl,?_⟩
  have h':∀ e G',G e=none→G' st=some (.dU true ((M++[(ky a p,e)]).map ktD))→G' e=some (.dU false ([(lot,more)].map kpD))→(∀ q u,q≠st→G q=some u→G' q=some u)→bN R .non G':=fun e G' a b c d=>bN.here (h e G' a b c d)
  clear h
  show a3S K A _ _ [some (.ref st),some (.tup [.int a,.int p]),some (.int lot),some (.int more),none] G
  exists a3S,qU hs
  intro e he
  have ne:e≠st:=fun z=>by rw [z,hs] at he;cases he
  have hs1:aQ G e (.dU false []) st=some (.dU true (M.map ktD)):=kZ hs he
  rw [aJG hs1 z7 rfl (by rw [List.length_map];omega) (by rw [a5J,hk];rfl)]
  generalize hG1:aQ (aQ G e (.dU false [])) st _=G1
  have e1:G1 e=some (.dU false (([]:List (Int×Int)).map kpD)):=by rw [← hG1,dW ne,aP];rfl
  have s1:G1 st=some (.dU true ((M++[(ky a p,e)]).map ktD)):=by rw [← hG1,aP,List.map_append];rfl
  have k1:∀ q u,q≠st→G q=some u→G1 q=some u:=fun q u n z=>by
    rw [← hG1,dW n]
    exact kZ z he
  refine at5 e1 (by simp) (fun _ G2 e2 k2=>?_) fun z=>?_
  · refine h' e G2 he (k2 _ _ (Ne.symm ne) s1) (by rw [e2];show some (GO.dU false ([(lot,0+more)].map kpD))=_;rw [Int.zero_add]) fun q u n z=>k2 q u (fun w=>by rw [w,he] at z;cases z) (k1 q u n z)
  · exact absurd z (by show (0:Int)+more≠0;rw [Int.zero_add];exact hm)
theorem adD {st d:Addr} {M:List (List Key×Addr)} {ps:List (Int×Int)} {a p lot more:Int} (hs:G st=some (.dU true (M.map ktD))) (hl:M.length < 1000) (hk:bD M (ky a p)=some d) (hd:G d=some (.dU false (ps.map kpD))) (hp:ps.length < 1000)
    (h1:(bD ps lot).getD 0+more≠0→∀ G',G' d=some (.dU false ((oN ps lot ((bD ps lot).getD 0+more)).map kpD))→(∀ q u,q≠d→G q=some u→G' q=some u)→R .non G')
    (h2:(bD ps lot).getD 0+more=0→tR (oN ps lot 0) lot=[]→∀ G',G' st=some (.dU true ((tR M (ky a p)).map ktD))→(∀ q u,q≠d→q≠st→G q=some u→G' q=some u)→R .non G')
    (h3:(bD ps lot).getD 0+more=0→tR (oN ps lot 0) lot≠[]→∀ G',G' d=some (.dU false ((tR (oN ps lot 0) lot).map kpD))→(∀ q u,q≠d→G q=some u→G' q=some u)→R .non G'):qH K A [.ref st,.tup [.int a,.int p],.int lot,.int more] G R EX:=by
  have big:10000 < sizeLine:=by decide
  refine ⟨rfl,?_⟩
  show a3S K A _ _ [some (.ref st),some (.tup [.int a,.int p]),some (.int lot),some (.int more),none] G
  exists a3S,qU hs
  intro e he
  have ne:st≠d:=fun z=>by rw [z,hd] at hs;cases hs
  have hs1:aQ G e (.dU false []) st=some (.dU true (M.map ktD)):=kZ hs he
  have hd1:aQ G e (.dU false []) d=some (.dU false (ps.map kpD)):=kZ hd he
  rw [aJH hs1 z7 rfl (by rw [List.length_map];omega) (by rw [a5J,hk];rfl)]
  refine at5 hd1 hp (fun c G2 e2 k2=>bN.here (h1 c G2 e2 fun q u n z=>k2 q u n (kZ z he))) fun c G2 e2 k2=>?_
  exists a5W
  rw [axN e2]
  walk_at "wr"
  by_cases c2:tR (oN ps lot 0) lot=[]
  · rw [c2,if_pos (by simp)]
    have s2:=k2 _ _ ne hs1
    exists qU s2
    rw [axO s2 z7 rfl (by rw [a5J,hk];rfl),aDI]
    refine bN.here (h2 c c2 _ aP fun q u n n2 z=>?_)
    rw [dW n2]
    exact k2 q u n (kZ z he)
  · rw [if_neg]
    · exact bN.here (h3 c c2 G2 e2 fun q u n z=>k2 q u n (kZ z he))
    · have:=List.length_pos_iff.mpr c2
      simp
      omega
abbrev shG (A:c7) (x y g:Nat) (room:Int) (st:Addr):GO := .ins A.aD [("layout",plD x y g),("room",.int room),("stacks",.ref st)]
theorem aDQ {sh:Addr} {x y g:Nat} (o:OkP x y g) {room:Int} (hr:1≤room∧room≤1000000) (h0:G sh=some (.ins A.aD [])) (h:∀ st G',G' sh=some (shG A x y g room st)→G' st=some (.dU true [])→(∀ q u,q≠sh→G q=some u→G' q=some u)→R .non G'):eZ K A [.ref sh,plD x y g,.int room] G R EX:=by
  refine ⟨rfl,?_⟩
  show nH K A _ _ [some (.ref sh),some (plD x y g),some (.int room)] G
  exists nH
  refine anE o ?_
  exists wW
  refine ajY hr ?_
  exists wV
  rw [apC h0 (by decide)]
  generalize hG1:aQ G sh _=G1
  have s1:G1 sh=some (.ins A.aD [("layout",plD x y g)]):=by rw [← hG1,aP];rfl
  exists wU
  rw [apC s1 (by show 1 < 1000;decide)]
  generalize hG2:aQ G1 sh _=G2
  have s2:G2 sh=some (.ins A.aD [("layout",plD x y g),("room",.int room)]):=by rw [← hG2,aP];rfl
  exists wR
  intro st hst
  have ne:st≠sh:=fun z=>by rw [z,s2] at hst;cases hst
  rw [apC (kZ s2 hst) (by show 2 < 1000;decide)]
  refine bN.here (h st _ (by rw [aP];rfl) (by rw [dW ne,aP]) fun q u n z=>?_)
  rw [dW n]
  refine kZ ?_ hst
  rw [← hG2,dW n,← hG1,dW n]
  exact z
def amt (M:List (List Key×Addr)) (c:Addr→List (Int×Int)) (k:List Key) (lot:Int):Int:=match bD M k with
  | some d=>(bD (c d) lot).getD 0
  | none=>0
def hld (M:List (List Key×Addr)) (c:Addr→List (Int×Int)) (k:List Key):List (Int×Int):=match bD M k with
  | some d=>c d
  | none=>[]
structure SH (A:c7) (sh:Addr) (x y g:Nat) (room:Int) (st:Addr) (M:List (List Key×Addr)) (c:Addr→List (Int×Int)) (G:Gp):Prop where
  o:OkP x y g
  sh:G sh=some (shG A x y g room st)
  st:G st=some (.dU true (M.map ktD))
  ins:∀ z∈M,G z.2=some (.dU false ((c z.2).map kpD))
theorem SH.le {sh:Addr} {x y g:Nat} {room:Int} {st:Addr} {M:List (List Key×Addr)} {c:Addr→List (Int×Int)} {G':Gp} (s:SH A sh x y g room st M c G) (l:Le G G'):SH A sh x y g room st M c G':=⟨s.o,l _ _ s.sh,l _ _ s.st,fun z hz=>l _ _ (s.ins z hz)⟩
theorem SH.get {F:D→Gp→Prop} {sh:Addr} {x y g:Nat} {room:Int} {st:Addr} {M:List (List Key×Addr)} {c:Addr→List (Int×Int)} (s:SH A sh x y g room st M c G) {a p:Int} (h:∀ d G',Le G G'→G' d=some (.dU false ((hld M c (ky a p)).map kpD))→F (.ref d) G'):∀ e,G e=none→uL (.ref st) (.tup [.int a,.int p]) (aQ G e (.dU false [])) fun _ _ kvs k=>F ((bD kvs k).getD (.ref e)) (aQ G e (.dU false [])):=by
  intro e he
  have l:Le G (aQ G e (.dU false [])) := .new he
  rw [oW (l _ _ s.st) z7 rfl,a5J]
  unfold hld at h
  cases hv:bD M (ky a p) with
  | none=>rw [hv] at h;exact h e _ l aP
  | some d=>rw [hv] at h;exact h d _ l (l _ _ (s.ins _ (arY hv)))
theorem a90 {sh:Addr} {x y g:Nat} {room:Int} {st:Addr} {M:List (List Key×Addr)} {c:Addr→List (Int×Int)} (s:SH A sh x y g room st M c G) {a p lot:Int} (hl:0≤lot∧lot≤999) (b:OkB x y a p) (h:∀ G',Le G G'→R (.int ((bD (hld M c (ky a p)) lot).getD 0)) G'):eU K A [.ref sh,.int lot,.tup [.int a,.int p]] G R EX:=by
  refine ⟨rfl,?_⟩
  have h':∀ G',Le G G'→bN R (.int ((bD (hld M c (ky a p)) lot).getD 0)) G':=fun G' l=>bN.here (h G' l)
  clear h
  show qK K A _ _ [some (.ref sh),some (.int lot),some (.tup [.int a,.int p])] G
  exists qK
  refine a8Y hl ?_
  exists a06
  rw [oU s.sh rfl]
  walk_at "wr"
  refine a8Z s.o b ?_
  exists a05
  rw [oU s.sh rfl]
  exists qU s.st
  refine s.get (F:=fun d G'=>a2O d G'∧uL d (.int lot) G' fun _ _ kvs k=>bN R ((bD kvs k).getD (.int 0)) G') fun d G1 l e1=>⟨by rw [qU e1];trivial,?_⟩
  rw [oW e1 wQ rfl,a5K]
  have eg:((bD (hld M c (ky a p)) lot).map D.int).getD (.int 0) = .int ((bD (hld M c (ky a p)) lot).getD 0):=by cases bD (hld M c (ky a p)) lot <;> rfl
  rw [eg]
  exact h' G1 l
theorem a91 {sh:Addr} {x y g:Nat} {room:Int} {st:Addr} {M:List (List Key×Addr)} {c:Addr→List (Int×Int)} (s:SH A sh x y g room st M c G) {a p:Int} (b:OkB x y a p) (h:∀ G',Le G G'→R (.int ((hld M c (ky a p)).map (·.2)).sum) G'):eO K A [.ref sh,.tup [.int a,.int p]] G R EX:=by
  refine ⟨rfl,?_⟩
  have h':∀ G',Le G G'→bN R (.int ((hld M c (ky a p)).map (·.2)).sum) G':=fun G' l=>bN.here (h G' l)
  clear h
  show qI K A _ _ [some (.ref sh),some (.tup [.int a,.int p])] G
  exists qI
  rw [oU s.sh rfl]
  walk_at "wr"
  refine a8Z s.o b ?_
  exists a04
  rw [oU s.sh rfl]
  exists qU s.st
  refine s.get (F:=fun d G'=>a86 d G' (bN R)) fun d G1 l e1=>?_
  exact aJI e1 (h' G1 l)
theorem aDR {sh:Addr} {x y g:Nat} {room:Int} {st:Addr} {M:List (List Key×Addr)} {c:Addr→List (Int×Int)} (s:SH A sh x y g room st M c G) {a p:Int} (b:OkB x y a p) (hn:(hld M c (ky a p)).length < 2) (h:∀ qs r G',Le G G'→qs.Perm (hld M c (ky a p))→tU qs→G' r=some (.lst (qs.map prV))→R (.ref r) G'):rK K A [.ref sh,.tup [.int a,.int p]] G R EX:=by
  refine ⟨rfl,?_⟩
  have h':∀ qs r G',Le G G'→qs.Perm (hld M c (ky a p))→tU qs→G' r=some (.lst (qs.map prV))→bN R (.ref r) G':=fun qs r G' a b c d=>bN.here (h qs r G' a b c d)
  clear h
  show tY K A _ _ [some (.ref sh),some (.tup [.int a,.int p])] G
  exists tY
  rw [oU s.sh rfl]
  walk_at "wr"
  refine a8Z s.o b ?_
  exists a3X
  rw [oU s.sh rfl]
  exists qU s.st
  refine s.get (F:=fun d G'=>a1C d G' (bN R)) fun d G1 l e1=>?_
  exact asM e1 hn fun qs p1 p2 r hr=>h' qs r _ (l.trans (.new hr)) p1 p2 aP
theorem at6 {sh:Addr} {x y g:Nat} {room:Int} {st:Addr} {M:List (List Key×Addr)} {c:Addr→List (Int×Int)} (s:SH A sh x y g room st M c G) {a p am:Int} (b:OkB x y a p) (h0:room < ((hld M c (ky a p)).map (·.2)).sum+am→EX A.bH G) (h1:((hld M c (ky a p)).map (·.2)).sum+am≤room→∀ G',Le G G'→R .non G'):lA K A [.ref sh,.tup [.int a,.int p],.int am] G R EX:=by
  refine ⟨rfl,?_⟩
  show lY K A _ _ [some (.ref sh),some (.tup [.int a,.int p]),some (.int am)] G
  exists lY,gC s.sh (m := "filled") rfl
  refine a91 s b fun G1 l=>?_
  generalize ((hld M c (ky a p)).map (·.2)).sum=f at *
  walk_at "wr"
  rw [oU (l _ _ s.sh) rfl]
  walk_at "wr"
  refine aaF (fun e=>?_) fun e=>?_
  · exact ⟨G,l,h0 (by simpa using e)⟩
  · exact bN.here (h1 (by simpa using e) G1 l)
theorem apM {sh:Addr} {x y g:Nat} {room:Int} {st:Addr} {M:List (List Key×Addr)} {c:Addr→List (Int×Int)} (s:SH A sh x y g room st M c G) {a p lot am:Int} (hl:0≤lot∧lot≤999) (b:OkB x y a p) (h0:(bD (hld M c (ky a p)) lot).getD 0 < am→EX A.aM G) (h1:am≤(bD (hld M c (ky a p)) lot).getD 0→∀ G',Le G G'→R .non G'):jW K A [.ref sh,.int lot,.tup [.int a,.int p],.int am] G R EX:=by
  refine ⟨rfl,?_⟩
  show lB K A _ _ [some (.ref sh),some (.int lot),some (.tup [.int a,.int p]),some (.int am)] G
  exists lB,gC s.sh (m := "amount") rfl
  refine a90 s hl b fun G1 l=>?_
  generalize (bD (hld M c (ky a p)) lot).getD 0=f at *
  walk_at "wr"
  refine aaF (fun e=>?_) fun e=>?_
  · exact ⟨G,l,h0 (by simpa using e)⟩
  · exact bN.here (h1 (by simpa using e) G1 l)
theorem aL7 {sh:Addr} {x y g:Nat} {room:Int} {st:Addr} {M:List (List Key×Addr)} {c:Addr→List (Int×Int)} (s:SH A sh x y g room st M c G) {a p lot am:Int} (hl:0≤lot∧lot≤999) (b:OkB x y a p) (ha:1≤am∧am≤1000000) (h0:room < ((hld M c (ky a p)).map (·.2)).sum+am→EX A.bH G)
    (h1:((hld M c (ky a p)).map (·.2)).sum+am≤room→∀ (G1:Gp) (R':oK) (EX':bM),Le G G1→(∀ G2,R .non G2→R' .non G2)→qH K A [.ref st,.tup [.int a,.int p],.int lot,.int am] G1 R' EX'):mF K A [.ref sh,.int lot,.tup [.int a,.int p],.int am] G R EX:=by
  refine ⟨rfl,?_⟩
  show wB K A _ _ [some (.ref sh),some (.int lot),some (.tup [.int a,.int p]),some (.int am)] G
  exists wB
  refine a8Y hl ?_
  exists a73
  rw [oU s.sh rfl]
  walk_at "wr"
  refine a8Z s.o b ?_
  exists a72
  refine ajY ha ?_
  exists a71,gC s.sh (m := "need_room") rfl
  refine at6 s b (fun e=>a87.here (h0 e)) fun e G1 l=>?_
  exists a70
  rw [oU (l _ _ s.sh) rfl]
  walk_at "wr"
  exact h1 e G1 _ _ l fun G2 z=>bN.here z
theorem aQK {sh:Addr} {x y g:Nat} {room:Int} {st:Addr} {M:List (List Key×Addr)} {c:Addr→List (Int×Int)} (s:SH A sh x y g room st M c G) {a p lot am:Int} (hl:0≤lot∧lot≤999) (b:OkB x y a p) (ha:1≤am∧am≤1000000) (h0:(bD (hld M c (ky a p)) lot).getD 0 < am→EX A.aM G)
    (h1:am≤(bD (hld M c (ky a p)) lot).getD 0→∀ (G1:Gp) (R':oK) (EX':bM),Le G G1→(∀ G2,R .non G2→R' .non G2)→qH K A [.ref st,.tup [.int a,.int p],.int lot,.int (-am)] G1 R' EX'):nW K A [.ref sh,.int lot,.tup [.int a,.int p],.int am] G R EX:=by
  refine ⟨rfl,?_⟩
  show tW K A _ _ [some (.ref sh),some (.int lot),some (.tup [.int a,.int p]),some (.int am)] G
  exists tW
  refine a8Y hl ?_
  exists a3W
  rw [oU s.sh rfl]
  walk_at "wr"
  refine a8Z s.o b ?_
  exists a3V
  refine ajY ha ?_
  exists a3U,gC s.sh (m := "need_there") rfl
  refine apM s hl b (fun e=>a87.here (h0 e)) fun e G1 l=>?_
  exists a3T
  rw [oU (l _ _ s.sh) rfl]
  walk_at "wr"
  exact h1 e G1 _ _ l fun G2 z=>bN.here z
abbrev cn (lot v:Int):Addr→List (Int×Int):=fun _=>[(lot,v)]
theorem rE {κ α:Type} [DecidableEq κ] {k:κ} {v:α}:bD [(k,v)] k=some v:=by
  unfold bD
  rw [if_pos rfl]
theorem apO {i v w:Int}:oN [(i,v)] i w=[(i,w)]:=by simp [oN,bD]
theorem drop_one {κ α:Type} [DecidableEq κ] {i:κ} {v:α}:tR [(i,v)] i=[]:=by simp [tR]
theorem aDS {c:Addr→List (Int×Int)} {k:List Key}:hld [] c k=[]:=rfl
theorem ak0 {c:Addr→List (Int×Int)} {k:List Key} {d:Addr}:hld [(k,d)] c k=c d:=by
  unfold hld
  rw [rE]
theorem aVK {sh:Addr} {x y g:Nat} {room:Int} {st:Addr} {c:Addr→List (Int×Int)} (s:SH A sh x y g room st [] c G) {a p lot am:Int} (hl:0≤lot∧lot≤999) (b:OkB x y a p) (ha:1≤am∧am≤1000000) (h0:room < am→EX A.bH G)
    (h1:am≤room→∀ d G',SH A sh x y g room st [(ky a p,d)] (cn lot am) G'→(∀ q u,q≠st→G q=some u→G' q=some u)→R .non G'):mF K A [.ref sh,.int lot,.tup [.int a,.int p],.int am] G R EX:=by
  have ne:sh≠st:=fun z=>by have:=s.sh;rw [z,s.st] at this;cases this
  refine aL7 s hl b ha (fun e=>h0 (by rw [aDS] at e;simpa using e)) fun e G1 R' EX' l hR=>?_
  have e':am≤room:=by rw [aDS] at e;simpa using e
  refine apL (l _ _ s.st) (by simp) rfl (by omega) fun d G2 _ s2 d2 k2=>hR _ (h1 e' d G2 ⟨s.o,k2 _ _ ne (l _ _ s.sh),s2,fun z hz=>?_⟩ fun q u n z=>k2 q u n (l _ _ z))
  cases List.mem_singleton.mp hz
  exact d2
theorem aVL {sh:Addr} {x y g:Nat} {room:Int} {st d:Addr} {a p lot v am:Int} (s:SH A sh x y g room st [(ky a p,d)] (cn lot v) G) (hl:0≤lot∧lot≤999) (b:OkB x y a p) (ha:1≤am∧am≤1000000) (hv:0≤v) (h0:room < v+am→EX A.bH G)
    (h1:v+am≤room→∀ G',SH A sh x y g room st [(ky a p,d)] (cn lot (v+am)) G'→(∀ q u,q≠d→G q=some u→G' q=some u)→R .non G'):mF K A [.ref sh,.int lot,.tup [.int a,.int p],.int am] G R EX:=by
  have hd:=s.ins _ (List.mem_singleton.mpr rfl)
  have ne:sh≠d:=fun z=>by have:=s.sh;rw [z,hd] at this;cases this
  have ne2:st≠d:=fun z=>by have:=s.st;rw [z,hd] at this;cases this
  refine aL7 s hl b ha (fun e=>h0 (by rw [ak0] at e;simpa using e)) fun e G1 R' EX' l hR=>?_
  have e':v+am≤room:=by rw [ak0] at e;simpa using e
  have en:(bD [(lot,v)] lot).getD 0+am=v+am:=by rw [rE];rfl
  refine adD (l _ _ s.st) (by simp) rE (l _ _ hd) (by simp) (fun _ G2 d2 k2=>?_) (fun z=>by rw [en] at z;omega) (fun z=>by rw [en] at z;omega)
  refine hR _ (h1 e' G2 ⟨s.o,k2 _ _ ne (l _ _ s.sh),k2 _ _ ne2 (l _ _ s.st),fun z hz=>?_⟩ fun q u n z=>k2 q u n (l _ _ z))
  cases List.mem_singleton.mp hz
  rw [d2,en]
  rw [show oN (cn lot v (ky a p,d).2) lot (v+am)=[(lot,v+am)] from apO]
theorem aQL {sh:Addr} {x y g:Nat} {room:Int} {st d:Addr} {a p lot v am:Int} (s:SH A sh x y g room st [(ky a p,d)] (cn lot v) G) (hl:0≤lot∧lot≤999) (b:OkB x y a p) (ha:1≤am∧am≤1000000) (h0:v < am→EX A.aM G)
    (h1:am < v→∀ G',SH A sh x y g room st [(ky a p,d)] (cn lot (v - am)) G'→(∀ q u,q≠d→G q=some u→G' q=some u)→R .non G')
    (h2:am=v→∀ G',SH A sh x y g room st [] (cn lot v) G'→(∀ q u,q≠d→q≠st→G q=some u→G' q=some u)→R .non G'):nW K A [.ref sh,.int lot,.tup [.int a,.int p],.int am] G R EX:=by
  have hd:=s.ins _ (List.mem_singleton.mpr rfl)
  have ne:sh≠d:=fun z=>by have:=s.sh;rw [z,hd] at this;cases this
  have ne2:st≠d:=fun z=>by have:=s.st;rw [z,hd] at this;cases this
  have ne3:sh≠st:=fun z=>by have:=s.sh;rw [z,s.st] at this;cases this
  have ea:(bD (hld [(ky a p,d)] (cn lot v) (ky a p)) lot).getD 0=v:=by rw [ak0,rE];rfl
  refine aQK s hl b ha (fun e=>h0 (by rw [ea] at e;exact e)) fun e G1 R' EX' l hR=>?_
  rw [ea] at e
  have en:(bD [(lot,v)] lot).getD 0+-am=v - am:=by rw [rE];show v+-am=_;omega
  refine adD (l _ _ s.st) (by simp) rE (l _ _ hd) (by simp) (fun z G2 d2 k2=>?_) (fun z zd G2 s2 k2=>?_) (fun z zd=>?_)
  · rw [en] at z d2
    refine hR _ (h1 (by omega) G2 ⟨s.o,k2 _ _ ne (l _ _ s.sh),k2 _ _ ne2 (l _ _ s.st),fun z hz=>?_⟩ fun q u n z=>k2 q u n (l _ _ z))
    cases List.mem_singleton.mp hz
    rw [d2]
    rw [show oN (cn lot v (ky a p,d).2) lot (v - am)=[(lot,v - am)] from apO]
  · rw [en] at z
    refine hR _ (h2 (by omega) G2 ⟨s.o,k2 _ _ ne ne3 (l _ _ s.sh),?_,fun z hz=>nomatch hz⟩ fun q u n n2 z=>k2 q u n n2 (l _ _ z))
    rw [s2,drop_one]
  · refine absurd ?_ zd
    rw [show oN (cn lot v (ky a p,d).2) lot 0=[(lot,0)] from apO]
    exact drop_one
theorem aDT {st:Addr} (h:G st=some (.dU true (([]:List (List Key×Addr)).map ktD))) (k:∀ r,G r=none→R (.ref r) (aQ G r (.lst []))):z6 [.ref st] G R :=
  asN (ps:=[]) h rfl List.nodup_nil (by decide) fun qs p1 _ r hr=>by
    rw [axR p1]
    exact k r hr
theorem aDU {st d:Addr} {a p:Int} (h:G st=some (.dU true ([(ky a p,d)].map ktD))) (k:∀ r,G r=none→R (.ref r) (aQ G r (.lst [.tup [.int a,.int p]]))):z6 [.ref st] G R :=
  asN (ps:=[(a,p)]) h rfl (by simp) (by simp) fun qs p1 _ r hr=>by
    rw [ajF p1]
    exact k r hr
theorem azX {r:Addr} {i v:Int} (h:bZ G r=some [.tup [.int i,.int v]]):a5F [.ref r] G R=∀ e,G e=none→R (.ref e) (aQ G e (.dU false ([(i,v)].map kpD))):=by
  unfold L2.a5F
  simp only [h]
  rfl
theorem aDV {sh:Addr} {x y g:Nat} {room:Int} {st:Addr} {c:Addr→List (Int×Int)} (s:SH A sh x y g room st [] c G) {lot:Int} (hl:0≤lot∧lot≤999) (h:∀ r G',Le G G'→G' r=some (.lst [])→R (.ref r) G'):gZ K A [.ref sh,.int lot] G R EX:=by
  have big:10000 < sizeLine:=by decide
  refine ⟨rfl,?_⟩
  show j6 K A _ _ [some (.ref sh),some (.int lot)] G
  exists j6
  refine a8Y hl ?_
  exists sH
  rw [oU s.sh rfl]
  walk_at "wr"
  refine aDT s.st fun r hr=>?_
  rw [ajE bT]
  refine apB (fun _=>true) (fun d=>d) (by show 0 < sizeLine;omega) bT (fun d hd=>nomatch hd) (fun d hd=>nomatch hd) fun q hq=>?_
  exact bN.here (h q _ ((Le.new hr).trans (.new hq)) aP)
theorem aDW {sh:Addr} {x y g:Nat} {room:Int} {st d:Addr} {a p lot v:Int} (s:SH A sh x y g room st [(ky a p,d)] (cn lot v) G) (hl:0≤lot∧lot≤999) (h:∀ r G',Le G G'→G' r=some (.lst [.tup [.tup [.int a,.int p],.int v]])→R (.ref r) G'):gZ K A [.ref sh,.int lot] G R EX:=by
  have big:10000 < sizeLine:=by decide
  have hd:=s.ins _ (List.mem_singleton.mpr rfl)
  refine ⟨rfl,?_⟩
  show j6 K A _ _ [some (.ref sh),some (.int lot)] G
  exists j6
  refine a8Y hl ?_
  exists sH
  rw [oU s.sh rfl]
  walk_at "wr"
  refine aDU s.st fun r hr=>?_
  rw [ajE bT]
  have l0:Le G (aQ G r (.lst [.tup [.int a,.int p]])) := .new hr
  have vs:bD ([(ky a p,d)].map ktD) (.inr (ky a p))=some (.ref d):=by rw [a5J,rE];rfl
  have vd:bD ((cn lot v (ky a p,d).2).map kpD) (.inl (.inl lot))=some (.int v):=by rw [a5K,show bD (cn lot v (ky a p,d).2) lot=some v from rE];rfl
  refine apB (fun _=>true) (fun _ => .tup [.tup [.int a,.int p],.int v]) (by show 1 < sizeLine;omega) bT (fun z hz G' l Q hQ=>?_) (fun z hz _ G' l Q hQ=>?_) fun q hq=>?_
  · cases List.mem_singleton.mp hz
    have l2:=l0.trans l
    walk_at "wr"
    rw [oU (l2 _ _ s.sh) rfl,ad2 (l2 _ _ s.st) z7 rfl vs,aQF (l2 _ _ hd) wQ rfl,vd]
    walk_at "wr"
    exact hQ _ (.refl _)
  · cases List.mem_singleton.mp hz
    have l2:=l0.trans l
    walk_at "wr"
    rw [oU (l2 _ _ s.sh) rfl,ad2 (l2 _ _ s.st) z7 rfl vs,ad2 (l2 _ _ hd) wQ rfl vd]
    walk_at "wr"
    exact hQ _ (.refl _)
  · exact bN.here (h q _ (l0.trans (.new hq)) aP)
theorem aJO {sh:Addr} {x y g:Nat} {room:Int} {st:Addr} {c:Addr→List (Int×Int)} (s:SH A sh x y g room st [] c G) (h:∀ t G',Le G G'→G' t=some (.dU true [])→R (.ref t) G'):j7 K A [.ref sh] G R EX:=by
  refine ⟨rfl,?_⟩
  show jX K A _ _ [some (.ref sh)] G
  exists jX
  rw [oU s.sh rfl]
  walk_at "wr"
  refine ⟨rfl,?_⟩
  show vA K A _ _ [some (.ref st),none,none] G
  exists vA
  intro t ht
  have l1:Le G (aQ G t (.dU true [])) := .new ht
  exists a5Y
  refine aDT (l1 _ _ s.st) fun r hr=>?_
  rw [an7 bT]
  refine asL (fun k ρ G'=>ρ=[some (.ref st),some (.ref t),none]∧Le (aQ (aQ G t (.dU true [])) r (.lst [])) G') ⟨rfl,.refl _⟩ (fun k ρ G' h=>h.2 |> fun l=>a5I l bT) (fun k d ρ G' hd=>by simp at hd) fun ρ G' hh=>?_
  obtain ⟨rfl,l⟩:=hh
  exists a5X
  have l2:=(Le.new (o := .lst []) hr).trans l
  exact bN.here (bN.here (h t G' (l1.trans l2) (l2 _ _ aP)))
theorem aJP {sh:Addr} {x y g:Nat} {room:Int} {st d:Addr} {a p lot v:Int} (s:SH A sh x y g room st [(ky a p,d)] (cn lot v) G) (h:∀ t e G',Le G G'→G' t=some (.dU true ([(ky a p,e)].map ktD))→G' e=some (.dU false ([(lot,v)].map kpD))→R (.ref t) G'):j7 K A [.ref sh] G R EX:=by
  have big:10000 < sizeLine:=by decide
  have hd:=s.ins _ (List.mem_singleton.mpr rfl)
  refine ⟨rfl,?_⟩
  show jX K A _ _ [some (.ref sh)] G
  exists jX
  rw [oU s.sh rfl]
  walk_at "wr"
  refine ⟨rfl,?_⟩
  show vA K A _ _ [some (.ref st),none,none] G
  exists vA
  intro t ht
  have l1:Le G (aQ G t (.dU true [])) := .new ht
  have vs:bD ([(ky a p,d)].map ktD) (.inr (ky a p))=some (.ref d):=by rw [a5J,rE];rfl
  exists a5Y
  refine aDU (l1 _ _ s.st) fun r hr=>?_
  have l2:Le (aQ G t (.dU true [])) (aQ (aQ G t (.dU true [])) r (.lst [.tup [.int a,.int p]])) := .new hr
  rw [an7 bT]
  refine asL (fun k ρ G'=>bZ G' r=some [.tup [.int a,.int p]]∧(k=0→∃ r2,ρ=[some (.ref st),some (.ref t),r2]∧Le (aQ (aQ G t (.dU true [])) r (.lst [.tup [.int a,.int p]])) G')∧(k=1→∃ r2 e,ρ=[some (.ref st),some (.ref t),r2]∧Le G G'∧G' t=some (.dU true ([(ky a p,e)].map ktD))∧G' e=some (.dU false ([(lot,v)].map kpD)))) ⟨bT,fun _=>⟨_,rfl,.refl _⟩,fun z=>nomatch z⟩ (fun k ρ G' h=>h.1) (fun k d' ρ G' hd' hh=>?_) fun ρ G' hh=>?_
  · match k,hd',hh with
    | 0,hd',hh =>
      obtain ⟨r2,rfl,l⟩:=hh.2.1 rfl
      have ed:D.tup [.int a,.int p]=d':=by simpa using hd'
      subst ed
      have l3:=(l1.trans l2).trans l
      have tt:G' t=some (.dU true []):=l _ _ (l2 _ _ aP)
      exists ab3
      rw [ad2 (l3 _ _ s.st) z7 rfl vs]
      walk_at "wr"
      refine asM (ps:=[(lot,v)]) (l3 _ _ hd) (by simp) fun qs p1 _ r3 h3=>?_
      rw [ajF p1]
      walk_at "wr"
      have lr:Le G' (aQ G' r3 (.lst [.tup [.int lot,.int v]])) := .new h3
      refine (show a5F [.ref r3] (aQ G' r3 (.lst [.tup [.int lot,.int v]])) _ from ?_)
      rw [azX bT]
      intro e he
      have le:Le _ (aQ (aQ G' r3 (.lst [.tup [.int lot,.int v]])) e (.dU false ([(lot,v)].map kpD))) := .new he
      walk_at "wr"
      have t3:=le _ _ (lr _ _ tt)
      have ne:e≠t:=fun z=>by rw [z] at he;rw [lr _ _ tt] at he;cases he
      have nr:r≠t:=fun z=>by rw [z] at hr;rw [aP] at hr;cases hr
      rw [axP t3 z7 rfl (by show 0 < sizeLine;omega)]
      refine ⟨?_,(fun z=>absurd z (by simp)),fun _=>⟨_,e,rfl,fun q u z=>?_,by rw [aP];rfl,by rw [dW ne,aP]⟩⟩
      · have z:=a5I le (a5I lr hh.1)
        unfold L2.bZ at z ⊢
        rw [dW nr]
        exact z
      · have nq:q≠t:=fun w=>by rw [w,ht] at z;cases z
        rw [dW nq]
        exact le _ _ (lr _ _ (l3 _ _ z))
    | k+1,hd',_=>simp at hd'
  · obtain ⟨r2,e,rfl,l,t1,e1⟩:=hh.2.2 rfl
    exists a5X
    exact bN.here (bN.here (h t e G' l t1 e1))
theorem aaJ {i:Int} (h:R (.bl true) G):qW K A [.int i] G R EX:=by
  refine ⟨rfl,?_⟩
  replace h:=bN.here h
  show z9 K A _ _ [some (.int i)] G
  exists z9
  exact h
theorem ak1 {e C:Addr} {b0 b1 b2 b3 b4 b5:Bool} {j:Nat} (he:G e=some (.exn C)) (ec:ExC K C) (kv:PySem.W.kitOne K (.ref C) (.type "ValueError")=some true) (k0:PySem.W.kitOne K (.ref C) (.ref A.bO)=some b0) (k1:PySem.W.kitOne K (.ref C) (.ref A.cM)=some b1) (k2:PySem.W.kitOne K (.ref C) (.ref A.cL)=some b2) (k3:PySem.W.kitOne K (.ref C) (.ref A.aW)=some b3) (k4:PySem.W.kitOne K (.ref C) (.ref A.aM)=some b4) (k5:PySem.W.kitOne K (.ref C) (.ref A.bH)=some b5)
    (h1:(([D.bl b0,.bl b1,.bl b2,.bl b3]++[D.bl b4,.bl b5]).filter az9).length=1) (hj:([D.bl b0,.bl b1,.bl b2,.bl b3]++[.bl b4,.bl b5])[j]?=some (.bl true)) (hn:∀ m,m < j→([D.bl b0,.bl b1,.bl b2,.bl b3]++[.bl b4,.bl b5])[m]?≠some (.bl true)) (h:∀ G',Le G G'→R (.tup [.str "refused",.int j]) G'):gQ K A [.ref e] G R EX:=by
  have big:10000 < sizeLine:=by decide
  refine ⟨rfl,?_⟩
  have h':∀ G',Le G G'→bN R (.tup [.str "refused",.int j]) G':=fun G' l=>bN.here (h G' l)
  clear h
  show wD K A _ _ [some (.ref e),none] G
  exists wD
  refine yX he ec k0 ?_
  walk_at "wr"
  refine yX he ec k1 ?_
  walk_at "wr"
  refine yX he ec k2 ?_
  walk_at "wr"
  refine yX he ec k3 ?_
  walk_at "wr"
  intro p hp
  have l1:Le G (aQ G p (.lst [.bl b0,.bl b1,.bl b2,.bl b3])) := .new hp
  exists a77
  refine yX (l1 _ _ he) ec k4 ?_
  walk_at "wr"
  refine yX (l1 _ _ he) ec k5 ?_
  walk_at "wr"
  intro q hq
  have l2:=l1.trans (Le.new (o := .lst [.bl b4,.bl b5]) hq)
  rw [aVA (kZ aP hq) aP (by show 4+2≤sizeLine;omega)]
  intro r hr
  have l3:=l2.trans (Le.new (o := .lst ([.bl b0,.bl b1,.bl b2,.bl b3]++[.bl b4,.bl b5])) hr)
  exists a76
  refine aIW (l3 _ _ he) ec kv ?_
  walk_at "wr"
  rw [ajE bT]
  refine apB az9 (fun d=>d) (by show 6 < sizeLine;omega) bT (fun d hd G' l Q hQ=>?_) (fun d hd _ G' l Q hQ=>?_) fun s hs=>?_
  · have hb:∃ b,d = .bl b:=by
      have hd:d∈[D.bl b0,.bl b1,.bl b2,.bl b3]++[.bl b4,.bl b5]:=hd
      simp only [List.cons_append,List.nil_append,List.mem_cons,List.not_mem_nil,or_false] at hd
      rcases hd with rfl | rfl | rfl | rfl | rfl | rfl <;> exact ⟨_,rfl⟩
    obtain ⟨b,rfl⟩:=hb
    walk_at "wr"
    exact hQ _ (.refl _)
  · walk_at "wr"
    exact hQ _ (.refl _)
  · rw [aoW bT]
    walk_at "wr"
    rw [if_neg (by rw [show (Src.items (.lst r ([D.bl b0,.bl b1,.bl b2,.bl b3]++[.bl b4,.bl b5])))=[D.bl b0,.bl b1,.bl b2,.bl b3]++[.bl b4,.bl b5] from rfl,h1];decide)]
    exists a75
    have l4:=Le.new (o := .lst (((Src.items (.lst r ([D.bl b0,.bl b1,.bl b2,.bl b3]++[.bl b4,.bl b5]))).filter az9).map fun d=>d)) hs
    have lr:=a5I l4 (bT (xs:=[D.bl b0,.bl b1,.bl b2,.bl b3]++[.bl b4,.bl b5]))
    rw [aIF,lr]
    refine ⟨rfl,?_⟩
    refine azT lr rfl j hj hn ?_
    walk_at "wr"
    exact h' _ (l3.trans l4)
theorem at7 (T:Txt K mg A) {e:Addr} (he:G e=some (.exn A.bH)) (h:∀ G',Le G G'→R (.tup [.str "refused",.int 5]) G'):gQ K A [.ref e] G R EX :=
  ak1 (j:=5) he T.asW T.zO T.jY T.mR T.mQ T.iB T.fW T.jZ rfl rfl (by intro m hm;match m,hm with | 0,_=>simp | 1,_=>simp | 2,_=>simp | 3,_=>simp | 4,_=>simp) h
theorem alU (T:Txt K mg A) {e:Addr} (he:G e=some (.exn A.aM)) (h:∀ G',Le G G'→R (.tup [.str "refused",.int 4]) G'):gQ K A [.ref e] G R EX :=
  ak1 (j:=4) he T.agQ T.qN T.fX T.iD T.iC T.dO T.d7 T.fY rfl rfl (by intro m hm;match m,hm with | 0,_=>simp | 1,_=>simp | 2,_=>simp | 3,_=>simp) h
theorem avS {sh:Addr} {x y g:Nat} {room:Int} {st:Addr} {c:Addr→List (Int×Int)} {a p lot:Int} (s:SH A sh x y g room st [] c G) (hl:0≤lot∧lot≤999) (b:OkB x y a p) (h:∀ G',Le G G'→R (.bl true) G'):gF K A [.ref sh,.int lot,.tup [.int a,.int p],.int 0] G R EX:=by
  have big:10000 < sizeLine:=by decide
  refine ⟨rfl,?_⟩
  have h':∀ G',Le G G'→bN R (.bl true) G':=fun G' l=>bN.here (h G' l)
  clear h
  show sX K A _ _ [some (.ref sh),some (.int lot),some (.tup [.int a,.int p]),some (.int 0),none] G
  exists sX,gC s.sh (m := "held") rfl
  refine aDR s b (by rw [aDS];decide) fun qs r G1 l1 p1 _ hr=>?_
  have q0:=axR p1
  subst q0
  have s1:=s.le l1
  exists a2W,gC s1.sh (m := "amount") rfl
  refine a90 s1 hl b fun G2 l2=>?_
  have s2:=s1.le l2
  refine aaJ ?_
  exists gC s2.sh (m := "filled") rfl
  refine a91 s2 b fun G3 l3=>?_
  have s3:=s2.le l3
  refine aaJ ?_
  exists a2V,gC s3.sh (m := "amount") rfl
  refine a90 s3 hl b fun G4 l4=>?_
  have s4:=s3.le l4
  rw [show (bD (hld [] c (ky a p)) lot).getD 0=0 from rfl]
  walk_at "wr"
  exists gC s4.sh (m := "filled") rfl
  refine a91 s4 b fun G5 l5=>?_
  have s5:=s4.le l5
  rw [show ((hld [] c (ky a p)).map (·.2)).sum=0 from rfl]
  exists a2U
  intro q hq
  have l6:=Le.new (o := .lst []) hq
  have s6:=s5.le l6
  have hr5:=(((l2.trans l3).trans l4).trans l5) _ _ hr
  rw [a5H (a3R (l6 _ _ hr5)) bT rfl rfl]
  rw [show rN (([]:List (Int×Int)).map prV) []=true from rfl]
  exists gC s6.sh (m := "places") rfl
  refine aDV s6 hl fun r2 G7 l7 hr2=>?_
  have s7:=s6.le l7
  walk_at "wr"
  intro q2 hq2
  have l8:=Le.new (o := .lst []) hq2
  have s8:=s7.le l8
  rw [a5H (a3R (l8 _ _ hr2)) bT rfl rfl]
  rw [show rN [] []=true from rfl]
  exists gC s8.sh (m := "lying") rfl
  refine aJO s8 fun t G9 l9 ht=>?_
  walk_at "wr"
  intro q3 hq3
  have l10:=Le.new (o := .dU true []) hq3
  refine axQ (M:=[]) (N:=[]) (c:=c) (l10 _ _ ht) aP (fun z hz=>nomatch hz) ?_
  exact h' _ ((((((((l1.trans l2).trans l3).trans l4).trans l5).trans l6).trans l7).trans l8).trans l9 |>.trans l10)
theorem ak2 {sh:Addr} {x y g:Nat} {room:Int} {st d:Addr} {a p lot v:Int} (s:SH A sh x y g room st [(ky a p,d)] (cn lot v) G) (hl:0≤lot∧lot≤999) (b:OkB x y a p) (hv:v≠0) (h:∀ G',Le G G'→R (.bl true) G'):gF K A [.ref sh,.int lot,.tup [.int a,.int p],.int v] G R EX:=by
  have big:10000 < sizeLine:=by decide
  refine ⟨rfl,?_⟩
  have h':∀ G',Le G G'→bN R (.bl true) G':=fun G' l=>bN.here (h G' l)
  clear h
  have ea:(bD (hld [(ky a p,d)] (cn lot v) (ky a p)) lot).getD 0=v:=by rw [ak0,rE];rfl
  have ef:((hld [(ky a p,d)] (cn lot v) (ky a p)).map (·.2)).sum=v:=by rw [ak0];show v+0=v;omega
  show sX K A _ _ [some (.ref sh),some (.int lot),some (.tup [.int a,.int p]),some (.int v),none] G
  exists sX,gC s.sh (m := "held") rfl
  refine aDR s b (by rw [ak0];simp) fun qs r G1 l1 p1 _ hr=>?_
  rw [ak0] at p1
  have q0:=ajF p1
  subst q0
  have s1:=s.le l1
  exists a2W,gC s1.sh (m := "amount") rfl
  refine a90 s1 hl b fun G2 l2=>?_
  have s2:=s1.le l2
  refine aaJ ?_
  exists gC s2.sh (m := "filled") rfl
  refine a91 s2 b fun G3 l3=>?_
  have s3:=s2.le l3
  refine aaJ ?_
  exists a2V,gC s3.sh (m := "amount") rfl
  refine a90 s3 hl b fun G4 l4=>?_
  have s4:=s3.le l4
  rw [ea]
  walk_at "wr"
  rw [beq_self_eq_true]
  walk_at "wr"
  exists gC s4.sh (m := "filled") rfl
  refine a91 s4 b fun G5 l5=>?_
  have s5:=s4.le l5
  rw [ef]
  walk_at "wr"
  rw [beq_self_eq_true]
  exists a2U
  rw [if_neg (by simpa using hv)]
  have hr5:=(((l2.trans l3).trans l4).trans l5) _ _ hr
  have ty5:tyD G5 (.ref r)=some "list" := by unfold L2.tyD;simp only [hr5]
  exists ab9
  rw [avF ty5 (by decide)]
  walk_at "wr"
  intro q hq
  have l6:=Le.new (o := .lst [.tup [.int lot,.int v]]) hq
  have s6:=s5.le l6
  rw [avH (a3R (l6 _ _ hr5)) bT (by simp [aO,prV]) (by simp [aO])]
  rw [show rN (([(lot,v)]:List (Int×Int)).map prV) [.tup [.int lot,.int v]]=true by simp [rN,eqP,prV]]
  walk_at "wr"
  rw [a88 (a3R (l6 _ _ hr5)) (d := .tup [.int lot,.int v]) (by rw [show (0:Int)=((0:Nat):Int) from rfl,a2Q];rfl)]
  exists ab8,gC s6.sh (m := "places") rfl
  refine aDW s6 hl fun r2 G7 l7 hr2=>?_
  have s7:=s6.le l7
  walk_at "wr"
  intro q2 hq2
  have l8:=Le.new (o := .lst [.tup [.tup [.int a,.int p],.int v]]) hq2
  have s8:=s7.le l8
  rw [a5H (a3R (l8 _ _ hr2)) bT (by simp [aO]) (by simp [aO])]
  rw [show rN [.tup [.tup [.int a,.int p],.int v]] [.tup [.tup [.int a,.int p],.int v]]=true by simp [rN,eqP]]
  exists gC s8.sh (m := "lying") rfl
  refine aJP s8 fun t e G9 l9 ht he=>?_
  walk_at "wr"
  intro q3 hq3 q4 hq4
  have n34:q4≠q3:=fun z=>by rw [z,aP] at hq4;cases hq4
  rw [oW (t:=false) (kvs:=[]) aP wQ rfl]
  refine ⟨by show 0 < sizeLine;omega,?_⟩
  generalize hGa:aQ (aQ (aQ G9 q3 (.dU true [])) q4 (.dU false [])) q4 _=Ga
  have a4:Ga q4=some (.dU false ([(lot,v)].map kpD)):=by rw [← hGa,aP];rfl
  have a3:Ga q3=some (.dU true []):=by rw [← hGa,dW (Ne.symm n34),dW (Ne.symm n34),aP]
  have la:Le G9 Ga:=fun z u e=>by
    have n3:z≠q3:=fun w=>by rw [w,hq3] at e;cases e
    have e2:aQ G9 q3 (.dU true []) z=some u:=by rw [dW n3];exact e
    have n4:z≠q4:=fun w=>by rw [w,hq4] at e2;cases e2
    rw [← hGa,dW n4,dW n4]
    exact e2
  rw [oW a3 z7 rfl]
  refine ⟨by show 0 < sizeLine;omega,?_⟩
  generalize hGb:aQ Ga q3 _=Gb
  have b3:Gb q3=some (.dU true ([(ky a p,q4)].map ktD)):=by rw [← hGb,aP];rfl
  have b4:Gb q4=some (.dU false ([(lot,v)].map kpD)):=by rw [← hGb,dW n34];exact a4
  have lb:Le G9 Gb:=fun z u e=>by
    have n3:z≠q3:=fun w=>by rw [w,hq3] at e;cases e
    rw [← hGb,dW n3]
    exact la _ _ e
  refine axQ (M:=[(ky a p,e)]) (N:=[(ky a p,q4)]) (c:=cn lot v) (lb _ _ ht) b3 (fun z hz=>?_) ?_
  · rcases List.mem_cons.mp hz with rfl | hz
    · exact lb _ _ he
    · cases List.mem_singleton.mp hz
      exact b4
  · rw [show (false ^^ L2.eqT (cn lot v) [(ky a p,e)] [(ky a p,q4)])=true by simp [L2.eqT,L2.eqM,bD]]
    exact h' _ ((((((((l1.trans l2).trans l3).trans l4).trans l5).trans l6).trans l7).trans l8).trans l9 |>.trans lb)
theorem avT (T:Txt K mg A) {sh:Addr} {x y g:Nat} {room:Int} {st:Addr} {c:Addr→List (Int×Int)} {a p lot am:Int} (s:SH A sh x y g room st [] c G) (hl:0≤lot∧lot≤999) (b:OkB x y a p) (ha:1≤am∧am≤1000000) (h0:room < am→∀ G',Le G G'→R (.tup [.str "refused",.int 5]) G')
    (h1:am≤room→∀ d G',SH A sh x y g room st [(ky a p,d)] (cn lot am) G'→(∀ q u,q≠st→G q=some u→G' q=some u)→R .non G'):pJ K A [.ref sh,.int lot,.tup [.int a,.int p],.int am] G R EX:=by
  refine ⟨rfl,?_⟩
  show vB K A _ _ [some (.ref sh),some (.int lot),some (.tup [.int a,.int p]),some (.int am),none] G
  exists vB,gC s.sh (m := "put") rfl
  refine aVK s hl b ha (fun e=>?_) fun e d G' s' k=>bN.here (h1 e d G' s' k)
  refine ⟨T.f9,fun x hx=>?_⟩
  walk_at "wr"
  exact at7 T aP fun G' l=>bN.here (h0 e G' ((Le.new hx).trans l))
theorem aQM (T:Txt K mg A) {sh:Addr} {x y g:Nat} {room:Int} {st d:Addr} {a p lot v am:Int} (s:SH A sh x y g room st [(ky a p,d)] (cn lot v) G) (hl:0≤lot∧lot≤999) (b:OkB x y a p) (ha:1≤am∧am≤1000000) (hv:0≤v) (hr:v+am≤room)
    (h1:∀ G',SH A sh x y g room st [(ky a p,d)] (cn lot (v+am)) G'→(∀ q u,q≠d→G q=some u→G' q=some u)→R .non G'):pJ K A [.ref sh,.int lot,.tup [.int a,.int p],.int am] G R EX:=by
  refine ⟨rfl,?_⟩
  show vB K A _ _ [some (.ref sh),some (.int lot),some (.tup [.int a,.int p]),some (.int am),none] G
  exists vB,gC s.sh (m := "put") rfl
  exact aVL s hl b ha hv (fun e=>by omega) fun e G' s' k=>bN.here (h1 G' s' k)
theorem ay4 (T:Txt K mg A) {sh:Addr} {x y g:Nat} {room:Int} {st d:Addr} {a p lot v am:Int} (s:SH A sh x y g room st [(ky a p,d)] (cn lot v) G) (hl:0≤lot∧lot≤999) (b:OkB x y a p) (ha:1≤am∧am≤1000000) (h0:v < am→∀ G',Le G G'→R (.tup [.str "refused",.int 4]) G')
    (h1:am < v→∀ G',SH A sh x y g room st [(ky a p,d)] (cn lot (v - am)) G'→(∀ q u,q≠d→G q=some u→G' q=some u)→R .non G')
    (h2:am=v→∀ G',SH A sh x y g room st [] (cn lot v) G'→(∀ q u,q≠d→q≠st→G q=some u→G' q=some u)→R .non G'):qX K A [.ref sh,.int lot,.tup [.int a,.int p],.int am] G R EX:=by
  refine ⟨rfl,?_⟩
  show zF K A _ _ [some (.ref sh),some (.int lot),some (.tup [.int a,.int p]),some (.int am),none] G
  exists zF,gC s.sh (m := "take") rfl
  refine aQL s hl b ha (fun e=>?_) (fun e G' s' k=>bN.here (h1 e G' s' k)) fun e G' s' k=>bN.here (h2 e G' s' k)
  refine ⟨T.cT,fun x hx=>?_⟩
  walk_at "wr"
  exact alU T aP fun G' l=>bN.here (h0 e G' ((Le.new hx).trans l))
theorem aQN (T:Txt K mg A) {F:oR} {ex:aY→bM} {r0 r1 r4 r5 r7 r9:Option D} {sh:Addr} {x y g:Nat} {room:Int} {st d:Addr} {a p lot v am:Int} (s:SH A sh x y g room st [(ky a p,d)] (cn lot v) G) (hl:0≤lot∧lot≤999) (b:OkB x y a p) (ha:1≤am∧am≤1000000) (hv:1≤v∧v≤room) (h:∀ G',F.rt (.bl true) G'):ajM K A ex F [r0,r1,some (.tup [.int a,.int p]),some (.int lot),r4,r5,some (.ref sh),r7,some (.int v),r9,some (.int am)] G:=by
  exists ajM
  refine aaF (fun e=>?_) fun e=>?_
  · have e:v < am:=by simpa using e
    refine ay4 T s hl b ha (fun _ G1 l1=>?_) (fun z=>by omega) (fun z=>by omega)
    walk_at "wr"
    refine ⟨by simp [aO],by simp [aO],?_⟩
    rw [show eqP (.tup [.str "refused",.int 4]) (.tup [.str "refused",.int 4])=true by simp [eqP,rN]]
    walk_at "wr"
    exact ak2 (s.le l1) hl b (by omega) fun G2 _=>h G2
  · have e:am≤v:=by simpa using e
    exists asO
    refine ay4 T s hl b ha (fun z=>by omega) (fun z G1 s1 k1=>?_) (fun z G1 s1 k1=>?_)
    · walk_at "wr"
      refine ak2 s1 hl b (by omega) fun G2 l2=>?_
      exists ajL
      refine aQM T (s1.le l2) hl b ha (by omega) (by omega) fun G3 s3 k3=>?_
      walk_at "wr"
      rw [show v - am+am=v by omega] at s3
      exact ak2 s3 hl b (by omega) fun G4 _=>h G4
    · walk_at "wr"
      subst z
      rw [show am - am=0 by omega]
      refine avS s1 hl b fun G2 l2=>?_
      exists ajL
      refine avT T (s1.le l2) hl b ha (fun z=>by omega) fun _ d2 G3 s3 k3=>?_
      walk_at "wr"
      exact ak2 s3 hl b (by omega) fun G4 _=>h G4
theorem aQO (T:Txt K mg A) {F:oR} {ex:aY→bM} {ns:List Int} {a0:Addr} {r1 r4 r7 r9 r10:Option D} {sh:Addr} {x y g:Nat} {room:Int} {st:Addr} {c:Addr→List (Int×Int)} {a p lot am:Int} (hG:G a0=some (.rol (ns.map D.int))) (s:SH A sh x y g room st [] c G) (hl:0≤lot∧lot≤999) (b:OkB x y a p) (ha:1≤am∧am≤1000000) (h:∀ G',F.rt (.bl true) G'):ajN K A ex F [some (.ref a0),r1,some (.tup [.int a,.int p]),some (.int lot),r4,some (.int room),some (.ref sh),r7,some (.int am),r9,r10] G:=by
  have big:10000 < sizeLine:=by decide
  exists ajN
  refine avS s hl b fun G1 l1=>?_
  exists asT
  refine aaF (fun e=>?_) fun e=>?_
  · have e:room < am:=by simpa using e
    refine avT T (s.le l1) hl b ha (fun _ G2 l2=>?_) (fun z=>by omega)
    walk_at "wr"
    refine ⟨by simp [aO],by simp [aO],?_⟩
    rw [show eqP (.tup [.str "refused",.int 5]) (.tup [.str "refused",.int 5])=true by simp [eqP,rN]]
    walk_at "wr"
    exact avS (s.le (l1.trans l2)) hl b fun G2 _=>h G2
  · have e:am≤room:=by simpa using e
    exists asS
    refine avT T (s.le l1) hl b ha (fun z=>by omega) fun _ d G2 s2 k2=>?_
    walk_at "wr"
    refine ak2 s2 hl b (by omega) fun G3 l3=>?_
    have n0:a0≠st:=fun z=>by have:=s.st;rw [← z,hG] at this;cases this
    have hG3:G3 a0=some (.rol (ns.map D.int)):=l3 _ _ (k2 _ _ n0 (l1 _ _ hG))
    exists asR
    refine a8X (k:=6) hG3 (by omega) ?_
    generalize cellAt ns 6=ls
    exists asQ
    intro q hq
    refine apA bT (by omega) (by show ls % 4 < 4;omega) fun z hz=>?_
    obtain ⟨t,rfl,ht⟩:∃ t:Int,z = .int t∧1≤t:=by
      simp only [List.mem_cons,List.not_mem_nil,or_false] at hz
      rcases hz with rfl | rfl | rfl | rfl
      · exact ⟨_,rfl,by omega⟩
      · exact ⟨_,rfl,by omega⟩
      · exact ⟨_,rfl,by have:=Int.emod_nonneg (ls / 4) (show am≠0 by omega);omega⟩
      · exact ⟨_,rfl,by omega⟩
    walk_at "wr"
    have e6:(10:Int) ^ Int.toNat 6=1000000:=by decide
    rw [e6]
    exact aQN T ((s2.le l3).le (.new hq)) hl b (by split <;> omega) (by omega) h
theorem aQP {x y g:Nat} (o:OkP x y g) {c:Int} (h:∀ a p,OkB x y a p→R (.tup [.int a,.int p]) G):zE K A [plD x y g,.int c] G R EX:=by
  refine ⟨rfl,?_⟩
  have o1:=o.x0
  have o2:=o.y0
  show a1J K A _ _ [some (plD x y g),some (.int c)] G
  have m1:=Int.emod_nonneg c (show (x:Int)≠0 by omega)
  have m2:=Int.emod_lt_of_pos c (show (0:Int) < x by omega)
  have m3:=Int.emod_nonneg (c / 26) (show (y:Int)≠0 by omega)
  have m4:=Int.emod_lt_of_pos (c / 26) (show (0:Int) < y by omega)
  unfold plD
  exists a1J
  exact bN.here (h _ _ ⟨m1,m2,by omega,by omega⟩)
theorem aL8 (T:Txt K mg A) {F:oR} {ex:aY→bM} {ns:List Int} {a0:Addr} {r1 r4:Option D} {sh:Addr} {x y g:Nat} {room:Int} {st:Addr} {c:Addr→List (Int×Int)} {a p lot:Int} (hG:G a0=some (.rol (ns.map D.int))) (s:SH A sh x y g room st [] c G) (hl:0≤lot∧lot≤999) (b:OkB x y a p) (hr:1≤room∧room≤1000000) (h:∀ G',F.rt (.bl true) G'):apE K A ex F [some (.ref a0),r1,some (.tup [.int a,.int p]),some (.int lot),r4,some (.int room),some (.ref sh),none,none,none,none] G:=by
  have big:10000 < sizeLine:=by decide
  exists apE
  refine a8X (k:=5) hG (by omega) ?_
  generalize cellAt ns 5=mo
  have e6:(10:Int) ^ Int.toNat 6=1000000:=by decide
  exists axT
  intro q hq
  refine apA bT (by omega) (by show mo % 4 < 4;omega) fun z hz=>?_
  obtain ⟨t,rfl,ht⟩:∃ t:Int,z = .int t∧1≤t:=by
    simp only [List.mem_cons,List.not_mem_nil,or_false] at hz
    rcases hz with rfl | rfl | rfl | rfl
    · exact ⟨_,rfl,by omega⟩
    · exact ⟨_,rfl,by omega⟩
    · exact ⟨_,rfl,by have:=Int.emod_nonneg (mo / 4) (show room≠0 by omega);omega⟩
    · rw [e6];exact ⟨_,rfl,by omega⟩
  walk_at "wr"
  rw [e6]
  exact aQO T ((Le.new hq) _ _ hG) (s.le (.new hq)) hl b (by split <;> omega) h
theorem ay5 (T:Txt K mg A) {F:oR} {ex:aY→bM} {ns:List Int} {a0:Addr} {x y g:Nat} (o:OkP x y g) {room:Int} {a p lot cell:Int} (hG:G a0=some (.rol (ns.map D.int))) (hl:0≤lot∧lot≤999) (b:OkB x y a p) (hr:1≤room∧room≤1000000) (h3:cell % 4=3→room=1000) (h:∀ G',F.rt (.bl true) G'):apF K A ex F [some (.ref a0),some (plD x y g),some (.tup [.int a,.int p]),some (.int lot),some (.int cell),some (.int room),none,none,none,none,none] G:=by
  exists apF
  intro sh hsh
  have n0:a0≠sh:=fun z=>by rw [← z,hG] at hsh;cases hsh
  refine aDQ o hr aP fun st G1 s1 d1 k1=>⟨rfl,?_⟩
  have hG1:G1 a0=some (.rol (ns.map D.int)):=k1 _ _ n0 ((Le.new hsh) _ _ hG)
  exists axU
  refine aaF (fun e=>?_) fun e=>?_
  · have e:cell % 4=3:=by simpa using e
    have er:=h3 e
    subst er
    intro sh2 aQQ
    have n2:a0≠sh2:=fun z=>by rw [← z,hG1] at aQQ;cases aQQ
    refine aDQ o (by omega) aP fun st2 G2 s2 d2 k2=>⟨rfl,?_⟩
    exact aL8 T (c:=fun _=>[]) (k2 _ _ n2 ((Le.new aQQ) _ _ hG1)) ⟨o,s2,d2,fun z hz=>nomatch hz⟩ hl b hr h
  · exact aL8 T (c:=fun _=>[]) hG1 ⟨o,s1,d1,fun z hz=>nomatch hz⟩ hl b hr h
theorem aVN (T:Txt K mg A) {a:Addr} {ns:List Int} (hG:G a=some (.rol (ns.map D.int))) (h:∀ G',R (.bl true) G'):apG K A [.ref a] G R EX:=by
  have big:10000 < sizeLine:=by decide
  refine ⟨rfl,?_⟩
  have h':∀ G',bN R (.bl true) G':=fun G'=>bN.here (h G')
  clear h
  show axZ K A _ _ [some (.ref a),none,none,none,none,none,none,none,none,none,none] G
  exists axZ
  refine aQH (k:=0) hG (by omega) fun x y g o=>?_
  exists axY
  refine a8X (k:=2) hG (by omega) ?_
  generalize cellAt ns 2=c2
  refine aQP o fun sa sp b=>?_
  exists axX
  refine a8X (k:=3) hG (by omega) ?_
  generalize cellAt ns 3=c3
  walk_at "wr"
  intro q hq
  have l1:=Le.new (o := .lst [.int (c3 % 1000),.int 0,.int 999]) hq
  refine a8X (k:=3) (l1 _ _ hG) (by omega) ?_
  generalize cellAt ns 3=c3'
  walk_at "wr"
  refine apA bT (by omega) (by show c3' / 1000 % 3 < 3;omega) fun z hz=>?_
  obtain ⟨lot,rfl,hl⟩:∃ t:Int,z = .int t∧0≤t∧t≤999:=by
    simp only [List.mem_cons,List.not_mem_nil,or_false] at hz
    rcases hz with rfl | rfl | rfl
    · exact ⟨_,rfl,by omega⟩
    · exact ⟨_,rfl,by omega⟩
    · exact ⟨_,rfl,by omega⟩
  exists axW
  refine a8X (k:=4) (l1 _ _ hG) (by omega) ?_
  generalize cellAt ns 4=c4
  have e6:(10:Int) ^ Int.toNat 6=1000000:=by decide
  exists axV
  rw [e6]
  intro q2 hq2
  have hG2:aQ _ q2 (.lst [.int (1+c4 / 4 % 40),.int (1+c4 / 4 % 1000000),.int 1000000,.int 1000]) a=_:=(l1.trans (Le.new hq2)) _ _ hG
  have c0:=Int.emod_nonneg c4 (show (4:Int)≠0 by decide)
  have c1:=Int.emod_lt_of_pos c4 (show (0:Int) < 4 by decide)
  obtain ⟨k,ek⟩:∃ k:Nat,c4 % 4=(k:Int):=⟨_,(Int.toNat_of_nonneg c0).symm⟩
  rw [ek] at c1 ⊢
  match k,c1,ek with
  | 0,_,ek=>rw [a88 bT (by rw [a2Q];rfl)];exact ay5 T o hG2 hl b (by omega) (by omega) h'
  | 1,_,ek=>rw [a88 bT (by rw [a2Q];rfl)];exact ay5 T o hG2 hl b (by omega) (by omega) h'
  | 2,_,ek=>rw [a88 bT (by rw [a2Q];rfl)];exact ay5 T o hG2 hl b (by omega) (by omega) h'
  | 3,_,ek=>rw [a88 bT (by rw [a2Q];rfl)];exact ay5 T o hG2 hl b (by omega) (by omega) h'
  | k+4,c1,_=>omega
theorem main (T:Txt K mg A) (a:Addr) (ns:List Int) (hl:ns.length≤63) (G:Gp) (hG:G a=some (.rol (ns.map D.int))):apG K A [.ref a] G (fun d _=>d = .bl true) (fun _ _=>False):=aVN T hG fun _=>rfl
end
end Law
namespace Law
open PySem PySem.Spec PyProof.Rows L2 L4
section
variable {P:Program} {w:World} {K:Fg} {mg:Str→Option Value} {base:Heap} {A:c7}
theorem aDX:bI ["k"] ["k"] (aB tV):=⟨rfl,rfl,rfl,by decide +kernel,rfl,by decide +kernel,by decide +kernel⟩
theorem aJQ:fD (aiD K A) (aB tV)=true:=by kernel_rfl
theorem adE:kB (aiD K A) 0 a5O (aG tV)=true:=by kernel_rfl
theorem aJR:(fun EX=>mB (aiD K A).gl K (fun _=>EX) a5O)=fun EX=>axS K A (fun _=>EX):=by kernel_rfl
theorem aDY (T:Txt K mg A):dH false P w K mg base (tQ P w) 1 A.a5L A.apD ["k"] (gB K (ajI K A)):=by
  have h:=bG (qt:=false) (P:=P) (w:=w) (mg:=mg) (base:=base) (k:=0) (S:=aiD K A) (c:=a5O) T.apH aDX rfl aJQ adE gln
  rw [aJR] at h
  exact h
theorem at8:bI ["thing", "least", "most"] ["thing", "least", "most"] (aB jB):=⟨rfl,rfl,rfl,by decide +kernel,rfl,by decide +kernel,by decide +kernel⟩
theorem avU:fD (a5P K A) (aB jB)=true:=by kernel_rfl
theorem a0K:kB (a5P K A) 0 rY (aG jB)=true:=by kernel_rfl
theorem avV:(fun EX=>mB (a5P K A).gl K (fun _=>EX) rY)=fun EX=>a01 K A (fun _=>EX):=by kernel_rfl
theorem a1N (T:Txt K mg A):dH false P w K mg base (tQ P w) 1 A.rP A.abU ["thing", "least", "most"] (gB K (dI K A)):=by
  have h:=bG (qt:=false) (P:=P) (w:=w) (mg:=mg) (base:=base) (k:=0) (S:=a5P K A) (c:=rY) T.vC at8 rfl avU a0K (fC ⟨T.ay3,av2⟩
    (fC ⟨T.nR,o9⟩
    (fC ⟨T.avP,awX⟩
    gln)))
  rw [avV] at h
  exact h
theorem avW:bI ["thing", "aisles", "first", "last"] ["thing", "aisles", "first", "last"] (aB m9):=⟨rfl,rfl,rfl,by decide +kernel,rfl,by decide +kernel,by decide +kernel⟩
theorem azY:fD (aaG K A) (aB m9)=true:=by kernel_rfl
theorem a4H:kB (aaG K A) 0 v8 (aG m9)=true:=by kernel_rfl
theorem azZ:(fun EX=>mB (aaG K A).gl K (fun _=>EX) v8)=fun EX=>zM K A (fun _=>EX):=by kernel_rfl
theorem avX (T:Txt K mg A):dH false P w K mg base (tQ P w) 2 A.uW A.af6 ["thing", "aisles", "first", "last"] (gB K (a5Q K A)):=by
  have h:=bG (qt:=false) (P:=P) (w:=w) (mg:=mg) (base:=base) (k:=1) (S:=aaG K A) (c:=v8) T.af9 avW rfl azY a4H (fC ⟨T.aiE,aiW⟩
    (fC ⟨T.nR,o9⟩
    (fC ⟨T.anC,aiV⟩
    (fC ⟨_,_,_,(a1N T).mono (by decide),T.a08,T.vC.kp,T.a07⟩
    gln))))
  rw [azZ] at h
  exact h
theorem apP:bI ["thing"] ["thing"] (aB gH):=⟨rfl,rfl,rfl,by decide +kernel,rfl,by decide +kernel,by decide +kernel⟩
theorem at9:fD (a1E K A) (aB gH)=true:=by kernel_rfl
theorem xF:kB (a1E K A) 0 pD (aG gH)=true:=by kernel_rfl
theorem atA:(fun EX=>mB (a1E K A).gl K (fun _=>EX) pD)=fun EX=>a1D K A (fun _=>EX):=by kernel_rfl
theorem apQ (T:Txt K mg A):dH false P w K mg base (tQ P w) 2 A.oZ A.a8B ["thing"] (gB K (z8 K A)):=by
  have h:=bG (qt:=false) (P:=P) (w:=w) (mg:=mg) (base:=base) (k:=1) (S:=a1E K A) (c:=pD) T.a8H apP rfl at9 xF (fC (gcI T.oF)
    (fC ⟨_,_,_,(a1N T).mono (by decide),T.a08,T.vC.kp,T.a07⟩
    gln))
  rw [atA] at h
  exact h
theorem avY:bI ["thing"] ["thing"] (aB mD):=⟨rfl,rfl,rfl,by decide +kernel,rfl,by decide +kernel,by decide +kernel⟩
theorem aA0:fD (aaH K A) (aB mD)=true:=by kernel_rfl
theorem a4I:kB (aaH K A) 0 v9 (aG mD)=true:=by kernel_rfl
theorem aA1:(fun EX=>mB (aaH K A).gl K (fun _=>EX) v9)=fun EX=>zN K A (fun _=>EX):=by kernel_rfl
theorem avZ (T:Txt K mg A):dH false P w K mg base (tQ P w) 2 A.uX A.af7 ["thing"] (gB K (a5R K A)):=by
  have h:=bG (qt:=false) (P:=P) (w:=w) (mg:=mg) (base:=base) (k:=1) (S:=aaH K A) (c:=v9) T.afA avY rfl aA0 a4I (fC ⟨T.aiE,aiW⟩
    (fC ⟨T.nR,o9⟩
    (fC ⟨T.anC,aiV⟩
    (fC (gcI T.oA)
    (fC ⟨_,_,_,(a1N T).mono (by decide),T.a08,T.vC.kp,T.a07⟩
    (fC (gcI T.oE)
    (fC (gcI T.vO)
    gln)))))))
  rw [aA1] at h
  exact h
theorem apR:bI ["plan"] ["plan"] (aB gJ):=⟨rfl,rfl,rfl,by decide +kernel,rfl,by decide +kernel,by decide +kernel⟩
theorem atB:fD (a1G K A) (aB gJ)=true:=by kernel_rfl
theorem xG:kB (a1G K A) 0 pF (aG gJ)=true:=by kernel_rfl
theorem atD:(fun EX=>mB (a1G K A).gl K (fun _=>EX) pF)=fun EX=>a1F K A (fun _=>EX):=by kernel_rfl
theorem adF (T:Txt K mg A):dH false P w K mg base (tQ P w) 3 A.p7 A.a8C ["plan"] (gB K (nG K A)):=by
  have h:=bG (qt:=false) (P:=P) (w:=w) (mg:=mg) (base:=base) (k:=2) (S:=a1G K A) (c:=pF) T.a1M apR rfl atB xG (fC ⟨_,_,_,(avZ T).mono (by decide),T.anB,T.afA.kp,T.anA⟩
    (fC ⟨T.ajW,T.a0G,T.sY,T.vM,T.sZ⟩
    gln))
  rw [atD] at h
  exact h
theorem aA2:bI ["plan", "thing"] ["plan", "thing"] (aB oX):=⟨rfl,rfl,rfl,by decide +kernel,rfl,by decide +kernel,by decide +kernel⟩
theorem aDZ:fD (ad4 K A) (aB oX)=true:=by kernel_rfl
theorem a92:kB (ad4 K A) 0 a02 (aG oX)=true:=by kernel_rfl
theorem aE0:(fun EX=>mB (ad4 K A).gl K (fun _=>EX) a02)=fun EX=>ad3 K A (fun _=>EX):=by kernel_rfl
theorem aA3 (T:Txt K mg A):dH false P w K mg base (tQ P w) 4 A.zW A.ajG ["plan", "thing"] (gB K (aaI K A)):=by
  have h:=bG (qt:=false) (P:=P) (w:=w) (mg:=mg) (base:=base) (k:=3) (S:=ad4 K A) (c:=a02) T.ajP aA2 rfl aDZ a92 (fC ⟨_,_,_,(adF T).mono (by decide),T.a8J,T.a1M.kp,T.a8I⟩
    (fC ⟨_,_,_,(avX T).mono (by decide),T.an9,T.af9.kp,T.an8⟩
    gln))
  rw [aE0] at h
  exact h
theorem atE:bI ["thing", "lots"] ["thing", "lots"] (aB jC):=⟨rfl,rfl,rfl,by decide +kernel,rfl,by decide +kernel,by decide +kernel⟩
theorem aw0:fD (a5T K A) (aB jC)=true:=by kernel_rfl
theorem a0L:kB (a5T K A) 0 rZ (aG jC)=true:=by kernel_rfl
theorem aw1:(fun EX=>mB (a5T K A).gl K (fun _=>EX) rZ)=fun EX=>a5S K A (fun _=>EX):=by kernel_rfl
theorem a1O (T:Txt K mg A):dH false P w K mg base (tQ P w) 2 A.rQ A.abV ["thing", "lots"] (gB K (gP K A)):=by
  have h:=bG (qt:=false) (P:=P) (w:=w) (mg:=mg) (base:=base) (k:=1) (S:=a5T K A) (c:=rZ) T.vD atE rfl aw0 a0L (fC ⟨_,_,_,(a1N T).mono (by decide),T.a08,T.vC.kp,T.a07⟩
    (fC ⟨T.apK,T.a6A,T.xC,T.a0I,T.xD⟩
    gln))
  rw [aw1] at h
  exact h
theorem atF:bI ["plan", "thing"] ["plan", "thing"] (aB jD):=⟨rfl,rfl,rfl,by decide +kernel,rfl,by decide +kernel,by decide +kernel⟩
theorem aw2:fD (a5V K A) (aB jD)=true:=by kernel_rfl
theorem a0M:kB (a5V K A) 0 sE (aG jD)=true:=by kernel_rfl
theorem aw3:(fun EX=>mB (a5V K A).gl K (fun _=>EX) sE)=fun EX=>a5U K A (fun _=>EX):=by kernel_rfl
theorem xH (T:Txt K mg A):dH false P w K mg base (tQ P w) 5 A.rR A.abW ["plan", "thing"] (gB K (dJ K A)):=by
  have h:=bG (qt:=false) (P:=P) (w:=w) (mg:=mg) (base:=base) (k:=4) (S:=a5V K A) (c:=sE) T.sJ atF rfl aw2 a0M (fC ⟨_,_,_,(aA3 T).mono (by decide),T.asV,T.ajP.kp,T.asU⟩
    (fC ⟨T.apJ,T.a69,T.xA,T.a0H,T.xB⟩
    gln))
  rw [aw3] at h
  exact h
theorem ak3:bI ["thing"] ["thing"] (aB d9):=⟨rfl,rfl,rfl,by decide +kernel,rfl,by decide +kernel,by decide +kernel⟩
theorem alV:fD (wA K A) (aB d9)=true:=by kernel_rfl
theorem rF:kB (wA K A) 0 lU (aG d9)=true:=by kernel_rfl
theorem alW:(fun EX=>mB (wA K A).gl K (fun _=>EX) lU)=fun EX=>w6 K A (fun _=>EX):=by kernel_rfl
theorem a0N (T:Txt K mg A):dH false P w K mg base (tQ P w) 3 A.lO A.a2R ["thing"] (gB K (eN K A)):=by
  have h:=bG (qt:=false) (P:=P) (w:=w) (mg:=mg) (base:=base) (k:=2) (S:=wA K A) (c:=lU) T.qY ak3 rfl alV rF (fC ⟨_,_,_,(apQ T).mono (by decide),T.agJ,T.a8H.kp,T.agI⟩
    (fC ⟨T.ac5,T.sO,T.mZ,T.pK,T.n6⟩
    gln))
  rw [alW] at h
  exact h
theorem aA4:bI ["stacks", "spot", "lot", "more", "held"] ["stacks", "spot", "lot", "more"] (aB oY):=⟨rfl,rfl,rfl,by decide +kernel,rfl,by decide +kernel,by decide +kernel⟩
theorem aE1:fD (ad5 K A) (aB oY)=true:=by kernel_rfl
theorem a93:kB (ad5 K A) 0 a03 (aG oY)=true:=by kernel_rfl
theorem aE2:(fun EX=>mB (ad5 K A).gl K (fun _=>EX) a03)=fun EX=>a3S K A (fun _=>EX):=by kernel_rfl
theorem anG (T:Txt K mg A):dH false P w K mg base (tQ P w) 1 A.zX A.ajH ["stacks", "spot", "lot", "more"] (gB K (qH K A)):=by
  have h:=bG (qt:=false) (P:=P) (w:=w) (mg:=mg) (base:=base) (k:=0) (S:=ad5 K A) (c:=a03) T.ad6 aA4 rfl aE1 a93 (fC ⟨T.anC,aiV⟩
    gln)
  rw [aE2] at h
  exact h
theorem atG:bI ["stacks", "told", "spot"] ["stacks"] (aB jE):=⟨rfl,rfl,rfl,by decide +kernel,rfl,by decide +kernel,by decide +kernel⟩
theorem aw4:fD (a5Z K A) (aB jE)=true:=by kernel_rfl
theorem a0O:kB (a5Z K A) 0 sG (aG jE)=true:=by kernel_rfl
theorem aw5:(fun EX=>mB (a5Z K A).gl K (fun _=>EX) sG)=fun EX=>vA K A (fun _=>EX):=by kernel_rfl
theorem atH (T:Txt K mg A):dH false P w K mg base (tQ P w) 1 A.rT A.abX ["stacks"] (gB K (a8G K A)):=by
  have h:=bG (qt:=false) (P:=P) (w:=w) (mg:=mg) (base:=base) (k:=0) (S:=a5Z K A) (c:=sG) T.ac0 atG rfl aw4 a0O (fC ⟨T.a8W,aaC⟩
    (fC ⟨T.a8W,aaC⟩
    (fC ⟨T.aDN,aG8⟩
    gln)))
  rw [aw5] at h
  exact h
theorem aaM:bI ["self", "plan", "room"] ["self", "plan", "room"] (aB bK):=⟨rfl,rfl,rfl,by decide +kernel,rfl,by decide +kernel,by decide +kernel⟩
theorem ac6:fD (nJ K A) (aB bK)=true:=by kernel_rfl
theorem fZ:kB (nJ K A) 0 dG (aG bK)=true:=by kernel_rfl
theorem gA:(fun EX=>mB (nJ K A).gl K (fun _=>EX) dG)=fun EX=>nH K A (fun _=>EX):=by kernel_rfl
theorem yL (T:Txt K mg A):dH false P w K mg base (tQ P w) 4 A.cF A.nC ["self", "plan", "room"] (gB K (eZ K A)):=by
  have h:=bG (qt:=false) (P:=P) (w:=w) (mg:=mg) (base:=base) (k:=3) (S:=nJ K A) (c:=dG) T.a0B aaM rfl ac6 fZ (fC ⟨_,_,_,(adF T).mono (by decide),T.a8J,T.a1M.kp,T.a8I⟩
    (fC ⟨_,_,_,(a0N T).mono (by decide),T.wH,T.qY.kp,T.wG⟩
    (fC ⟨T.aX,T.eV⟩
    (fC ⟨T.aX,T.xW⟩
    (fC ⟨T.aX,T.cJ⟩
    gln)))))
  rw [gA] at h
  exact h
theorem adG:bI ["self", "spot"] ["self", "spot"] (aB bU):=⟨rfl,rfl,rfl,by decide +kernel,rfl,by decide +kernel,by decide +kernel⟩
theorem afB:fD (qJ K A) (aB bU)=true:=by kernel_rfl
theorem j8:kB (qJ K A) 0 fQ (aG bU)=true:=by kernel_rfl
theorem afC:(fun EX=>mB (qJ K A).gl K (fun _=>EX) fQ)=fun EX=>qI K A (fun _=>EX):=by kernel_rfl
theorem a1P (T:Txt K mg A):dH false P w K mg base (tQ P w) 6 A.fM A.uY ["self", "spot"] (gB K (eO K A)):=by
  have h:=bG (qt:=false) (P:=P) (w:=w) (mg:=mg) (base:=base) (k:=5) (S:=qJ K A) (c:=fQ) T.a4B adG rfl afB j8 (fC ⟨T.aX,T.eV⟩
    (fC ⟨_,_,_,(xH T).mono (by decide),T.vH,T.sJ.kp,T.vG⟩
    (fC ⟨T.aL6,aNL⟩
    (fC ⟨T.aX,T.cJ⟩
    gln))))
  rw [afC] at h
  exact h
theorem a94:bI ["self", "spot", "amount"] ["self", "spot", "amount"] (aB bC):=⟨rfl,rfl,rfl,by decide +kernel,rfl,by decide +kernel,by decide +kernel⟩
theorem aaN:fD (lZ K A) (aB bC)=true:=by kernel_rfl
theorem fB:kB (lZ K A) 0 cX (aG bC)=true:=by kernel_rfl
theorem aaO:(fun EX=>mB (lZ K A).gl K (fun _=>EX) cX)=fun EX=>lY K A (fun _=>EX):=by kernel_rfl
theorem a95 (T:Txt K mg A):dH false P w K mg base (tQ P w) 7 A.cW A.qO ["self", "spot", "amount"] (gB K (lA K A)):=by
  have h:=bG (qt:=false) (P:=P) (w:=w) (mg:=mg) (base:=base) (k:=6) (S:=lZ K A) (c:=cX) T.yI a94 rfl aaN fB (fC (⟨_,_,_,[],[],T.aX,T.vJ,(a1P T).mono (by decide),T.vI,.nil,fun _ => .nil⟩)
    (fC ⟨T.aX,T.xW⟩
    (fC ⟨T.ajX,T.a0J,T.tD,T.vN,T.tE⟩
    gln)))
  rw [aaO] at h
  exact h
theorem ak4:bI ["self", "lot", "spot", "amount"] ["self", "lot", "spot", "amount"] (aB dB):=⟨rfl,rfl,rfl,by decide +kernel,rfl,by decide +kernel,by decide +kernel⟩
theorem alX:fD (wC K A) (aB dB)=true:=by kernel_rfl
theorem oG:kB (wC K A) 0 lV (aG dB)=true:=by kernel_rfl
theorem alY:(fun EX=>mB (wC K A).gl K (fun _=>EX) lV)=fun EX=>wB K A (fun _=>EX):=by kernel_rfl
theorem ak5 (T:Txt K mg A):dH false P w K mg base (tQ P w) 8 A.lQ A.a2S ["self", "lot", "spot", "amount"] (gB K (mF K A)):=by
  have h:=bG (qt:=false) (P:=P) (w:=w) (mg:=mg) (base:=base) (k:=7) (S:=wC K A) (c:=lV) T.abA ak4 rfl alX oG (fC (gcI T.lM)
    (fC ⟨_,_,_,(a1O T).mono (by decide),T.a0A,T.vD.kp,T.a09⟩
    (fC ⟨T.aX,T.eV⟩
    (fC ⟨_,_,_,(xH T).mono (by decide),T.vH,T.sJ.kp,T.vG⟩
    (fC ⟨_,_,_,(a0N T).mono (by decide),T.wH,T.qY.kp,T.wG⟩
    (fC (⟨_,_,_,[],[],T.aX,T.yK,(a95 T).mono (by decide),T.yJ,.nil,fun _ => .nil⟩)
    (fC ⟨T.aX,T.cJ⟩
    (fC ⟨_,_,_,(anG T).mono (by decide),T.ajR,T.ad6.kp,T.ajQ⟩
    gln))))))))
  rw [alY] at h
  exact h
theorem adH:bI ["self", "lot", "spot"] ["self", "lot", "spot"] (aB bV):=⟨rfl,rfl,rfl,by decide +kernel,rfl,by decide +kernel,by decide +kernel⟩
theorem afD:fD (qL K A) (aB bV)=true:=by kernel_rfl
theorem j9:kB (qL K A) 0 fU (aG bV)=true:=by kernel_rfl
theorem afE:(fun EX=>mB (qL K A).gl K (fun _=>EX) fU)=fun EX=>qK K A (fun _=>EX):=by kernel_rfl
theorem a1Q (T:Txt K mg A):dH false P w K mg base (tQ P w) 6 A.fO A.uZ ["self", "lot", "spot"] (gB K (eU K A)):=by
  have h:=bG (qt:=false) (P:=P) (w:=w) (mg:=mg) (base:=base) (k:=5) (S:=qL K A) (c:=fU) T.a4C adH rfl afD j9 (fC (gcI T.lM)
    (fC ⟨_,_,_,(a1O T).mono (by decide),T.a0A,T.vD.kp,T.a09⟩
    (fC ⟨T.aX,T.eV⟩
    (fC ⟨_,_,_,(xH T).mono (by decide),T.vH,T.sJ.kp,T.vG⟩
    (fC ⟨T.aX,T.cJ⟩
    gln)))))
  rw [afE] at h
  exact h
theorem a7T:bI ["self", "lot", "spot", "amount"] ["self", "lot", "spot", "amount"] (aB aZ):=⟨rfl,rfl,rfl,by decide +kernel,rfl,by decide +kernel,by decide +kernel⟩
theorem a96:fD (lC K A) (aB aZ)=true:=by kernel_rfl
theorem dR:kB (lC K A) 0 cR (aG aZ)=true:=by kernel_rfl
theorem a97:(fun EX=>mB (lC K A).gl K (fun _=>EX) cR)=fun EX=>lB K A (fun _=>EX):=by kernel_rfl
theorem a7U (T:Txt K mg A):dH false P w K mg base (tQ P w) 7 A.cQ A.p8 ["self", "lot", "spot", "amount"] (gB K (jW K A)):=by
  have h:=bG (qt:=false) (P:=P) (w:=w) (mg:=mg) (base:=base) (k:=6) (S:=lC K A) (c:=cR) T.wX a7T rfl a96 dR (fC (⟨_,_,_,[],[],T.aX,T.vL,(a1Q T).mono (by decide),T.vK,.nil,fun _ => .nil⟩)
    (fC ⟨T.a8V,T.pL,T.lD,T.nQ,T.lE⟩
    gln))
  rw [a97] at h
  exact h
theorem ahO:bI ["self", "lot", "spot", "amount"] ["self", "lot", "spot", "amount"] (aB cN):=⟨rfl,rfl,rfl,by decide +kernel,rfl,by decide +kernel,by decide +kernel⟩
theorem ak6:fD (tX K A) (aB cN)=true:=by kernel_rfl
theorem mU:kB (tX K A) 0 jK (aG cN)=true:=by kernel_rfl
theorem ak7:(fun EX=>mB (tX K A).gl K (fun _=>EX) jK)=fun EX=>tW K A (fun _=>EX):=by kernel_rfl
theorem ahP (T:Txt K mg A):dH false P w K mg base (tQ P w) 8 A.jG A.zY ["self", "lot", "spot", "amount"] (gB K (nW K A)):=by
  have h:=bG (qt:=false) (P:=P) (w:=w) (mg:=mg) (base:=base) (k:=7) (S:=tX K A) (c:=jK) T.a8K ahO rfl ak6 mU (fC (gcI T.lM)
    (fC ⟨_,_,_,(a1O T).mono (by decide),T.a0A,T.vD.kp,T.a09⟩
    (fC ⟨T.aX,T.eV⟩
    (fC ⟨_,_,_,(xH T).mono (by decide),T.vH,T.sJ.kp,T.vG⟩
    (fC ⟨_,_,_,(a0N T).mono (by decide),T.wH,T.qY.kp,T.wG⟩
    (fC (⟨_,_,_,[],[],T.aX,T.wZ,(a7U T).mono (by decide),T.wY,.nil,fun _ => .nil⟩)
    (fC ⟨T.aX,T.cJ⟩
    (fC ⟨_,_,_,(anG T).mono (by decide),T.ajR,T.ad6.kp,T.ajQ⟩
    gln))))))))
  rw [ak7] at h
  exact h
theorem afF:bI ["self", "lot", "one", "other", "amount"] ["self", "lot", "one", "other", "amount"] (aB cG):=⟨rfl,rfl,rfl,by decide +kernel,rfl,by decide +kernel,by decide +kernel⟩
theorem ahQ:fD (rJ K A) (aB cG)=true:=by kernel_rfl
theorem kJ:kB (rJ K A) 0 iJ (aG cG)=true:=by kernel_rfl
theorem ahR:(fun EX=>mB (rJ K A).gl K (fun _=>EX) iJ)=fun EX=>a74 K A (fun _=>EX):=by kernel_rfl
theorem aA5 (T:Txt K mg A):dH false P w K mg base (tQ P w) 2 A.iH A.xU ["self", "lot", "one", "other", "amount"] (gB K (af8 K A)):=by
  have h:=bG (qt:=false) (P:=P) (w:=w) (mg:=mg) (base:=base) (k:=1) (S:=rJ K A) (c:=iJ) T.a78 afF rfl ahQ kJ (fC ⟨_,_,_,(aDY T).mono (by decide),T.ay2,T.apH.kp,T.ay1⟩
    gln)
  rw [ahR] at h
  exact h
theorem ahS:bI ["self", "spot"] ["self", "spot"] (aB cO):=⟨rfl,rfl,rfl,by decide +kernel,rfl,by decide +kernel,by decide +kernel⟩
theorem ak8:fD (tZ K A) (aB cO)=true:=by kernel_rfl
theorem mV:kB (tZ K A) 0 jL (aG cO)=true:=by kernel_rfl
theorem ak9:(fun EX=>mB (tZ K A).gl K (fun _=>EX) jL)=fun EX=>tY K A (fun _=>EX):=by kernel_rfl
theorem ahT (T:Txt K mg A):dH false P w K mg base (tQ P w) 6 A.jH A.zZ ["self", "spot"] (gB K (rK K A)):=by
  have h:=bG (qt:=false) (P:=P) (w:=w) (mg:=mg) (base:=base) (k:=5) (S:=tZ K A) (c:=jL) T.a8N ahS rfl ak8 mV (fC ⟨T.aX,T.eV⟩
    (fC ⟨_,_,_,(xH T).mono (by decide),T.vH,T.sJ.kp,T.vG⟩
    (fC ⟨T.a8W,aaC⟩
    (fC ⟨T.aX,T.cJ⟩
    gln))))
  rw [ak9] at h
  exact h
theorem adI:bI ["self", "lot"] ["self", "lot"] (aB bW):=⟨rfl,rfl,rfl,by decide +kernel,rfl,by decide +kernel,by decide +kernel⟩
theorem afG:fD (qM K A) (aB bW)=true:=by kernel_rfl
theorem jA:kB (qM K A) 0 fV (aG bW)=true:=by kernel_rfl
theorem afH:(fun EX=>mB (qM K A).gl K (fun _=>EX) fV)=fun EX=>j6 K A (fun _=>EX):=by kernel_rfl
theorem adJ (T:Txt K mg A):dH false P w K mg base (tQ P w) 3 A.fP A.v7 ["self", "lot"] (gB K (gZ K A)):=by
  have h:=bG (qt:=false) (P:=P) (w:=w) (mg:=mg) (base:=base) (k:=2) (S:=qM K A) (c:=fV) T.a4D adI rfl afG jA (fC (gcI T.lM)
    (fC ⟨_,_,_,(a1O T).mono (by decide),T.a0A,T.vD.kp,T.a09⟩
    (fC ⟨T.aX,T.cJ⟩
    (fC ⟨T.a8W,aaC⟩
    gln))))
  rw [afH] at h
  exact h
theorem afI:bI ["self"] ["self"] (aB cH):=⟨rfl,rfl,rfl,by decide +kernel,rfl,by decide +kernel,by decide +kernel⟩
theorem ahU:fD (rM K A) (aB cH)=true:=by kernel_rfl
theorem kW:kB (rM K A) 0 iK (aG cH)=true:=by kernel_rfl
theorem ahV:(fun EX=>mB (rM K A).gl K (fun _=>EX) iK)=fun EX=>jX K A (fun _=>EX):=by kernel_rfl
theorem afJ (T:Txt K mg A):dH false P w K mg base (tQ P w) 2 A.iI A.xV ["self"] (gB K (j7 K A)):=by
  have h:=bG (qt:=false) (P:=P) (w:=w) (mg:=mg) (base:=base) (k:=1) (S:=rM K A) (c:=iK) T.a79 afI rfl ahU kW (fC ⟨T.aX,T.cJ⟩
    (fC ⟨_,_,_,(atH T).mono (by decide),T.ajT,T.ac0.kp,T.ajS⟩
    gln))
  rw [ahV] at h
  exact h
theorem ahW:bI ["_law_script", "_law_k", "_law_mixed"] ["_law_script", "_law_k"] (aB cP):=⟨rfl,rfl,rfl,by decide +kernel,rfl,by decide +kernel,by decide +kernel⟩
theorem akA:fD (u5 K A) (aB cP)=true:=by kernel_rfl
theorem pW:kB (u5 K A) 0 jM (aG cP)=true:=by kernel_rfl
theorem akB:(fun EX=>mB (u5 K A).gl K (fun _=>EX) jM)=fun EX=>u0 K A (fun _=>EX):=by kernel_rfl
theorem a7C (T:Txt K mg A):dH false P w K mg base (tQ P w) 1 A.jJ A.a00 ["_law_script", "_law_k"] (gB K (bR K A)):=by
  have h:=bG (qt:=false) (P:=P) (w:=w) (mg:=mg) (base:=base) (k:=0) (S:=u5 K A) (c:=jM) T.u6 ahW rfl akA pW (fC ⟨T.anC,aiV⟩
    gln)
  rw [akB] at h
  exact h
theorem alZ:bI ["_law_found"] ["_law_found"] (aB eF):=⟨rfl,rfl,rfl,by decide +kernel,rfl,by decide +kernel,by decide +kernel⟩
theorem apS:fD (zA K A) (aB eF)=true:=by kernel_rfl
theorem u9:kB (zA K A) 0 nM (aG eF)=true:=by kernel_rfl
theorem apT:(fun EX=>mB (zA K A).gl K (fun _=>EX) nM)=fun EX=>z9 K A (fun _=>EX):=by kernel_rfl
theorem am0 (T:Txt K mg A):dH false P w K mg base (tQ P w) 1 A.nD A.a5M ["_law_found"] (gB K (qW K A)):=by
  have h:=bG (qt:=false) (P:=P) (w:=w) (mg:=mg) (base:=base) (k:=0) (S:=zA K A) (c:=nM) T.a66 alZ rfl apS u9 (fC ⟨T.ay3,av2⟩
    (fC ⟨T.nR,o9⟩
    (fC ⟨T.avP,awX⟩
    gln)))
  rw [apT] at h
  exact h
theorem apU:bI ["_law_script", "_law_k", "_law_cell", "_law_other", "_law_aisles", "_law_places"] ["_law_script", "_law_k"] (aB gK):=⟨rfl,rfl,rfl,by decide +kernel,rfl,by decide +kernel,by decide +kernel⟩
theorem atJ:fD (a1I K A) (aB gK)=true:=by kernel_rfl
theorem xJ:kB (a1I K A) 0 pG (aG gK)=true:=by kernel_rfl
theorem atL:(fun EX=>mB (a1I K A).gl K (fun _=>EX) pG)=fun EX=>a1H K A (fun _=>EX):=by kernel_rfl
theorem apV (T:Txt K mg A):dH false P w K mg base (tQ P w) 2 A.pA A.a8D ["_law_script", "_law_k"] (gB K (zB K A)):=by
  have h:=bG (qt:=false) (P:=P) (w:=w) (mg:=mg) (base:=base) (k:=1) (S:=a1I K A) (c:=pG) T.a8Q apU rfl atJ xJ (fC ⟨_,_,_,(a7C T).mono (by decide),T.a0F,T.u6.kp,T.a0E⟩
    (fC ⟨T.ay3,av2⟩
    gln))
  rw [atL] at h
  exact h
theorem apW:bI ["_law_plan_here", "_law_cell"] ["_law_plan_here", "_law_cell"] (aB gM):=⟨rfl,rfl,rfl,by decide +kernel,rfl,by decide +kernel,by decide +kernel⟩
theorem atM:fD (a1K K A) (aB gM)=true:=by kernel_rfl
theorem xK:kB (a1K K A) 0 pH (aG gM)=true:=by kernel_rfl
theorem atN:(fun EX=>mB (a1K K A).gl K (fun _=>EX) pH)=fun EX=>a1J K A (fun _=>EX):=by kernel_rfl
theorem apY (T:Txt K mg A):dH false P w K mg base (tQ P w) 1 A.pB A.a8E ["_law_plan_here", "_law_cell"] (gB K (zE K A)):=by
  have h:=bG (qt:=false) (P:=P) (w:=w) (mg:=mg) (base:=base) (k:=0) (S:=a1K K A) (c:=pH) T.a8R apW rfl atM xK gln
  rw [atN] at h
  exact h
theorem akC:bI ["_law_e", "_law_marks"] ["_law_e"] (aB dD):=⟨rfl,rfl,rfl,by decide +kernel,rfl,by decide +kernel,by decide +kernel⟩
theorem am1:fD (wF K A) (aB dD)=true:=by kernel_rfl
theorem rG:kB (wF K A) 0 lW (aG dD)=true:=by kernel_rfl
theorem am2:(fun EX=>mB (wF K A).gl K (fun _=>EX) lW)=fun EX=>wD K A (fun _=>EX):=by kernel_rfl
theorem a98 (T:Txt K mg A):dH true P w K mg base (tQ P w) 1 A.lR A.a2T ["_law_e"] (gB K (gQ K A)):=by
  have h:=bG (qt:=true) (P:=P) (w:=w) (mg:=mg) (base:=base) (k:=0) (S:=wF K A) (c:=lW) T.wI akC rfl am1 rG (fC ⟨T.ajW,T.a0G,T.sY,T.vM,T.sZ⟩
    (fC ⟨T.nR,o9⟩
    (fC ⟨T.apK,T.a6A,T.xC,T.a0I,T.xD⟩
    (fC ⟨T.apJ,T.a69,T.xA,T.a0H,T.xB⟩
    (fC ⟨T.ac5,T.sO,T.mZ,T.pK,T.n6⟩
    (fC ⟨T.a8V,T.pL,T.lD,T.nQ,T.lE⟩
    (fC ⟨T.ajX,T.a0J,T.tD,T.vN,T.tE⟩
    (fC ⟨T.adB,alM⟩
    (fC ⟨T.anC,aiV⟩
    gln)))))))))
  rw [am2] at h
  exact h
theorem apZ:bI ["_law_shelves", "_law_lot", "_law_spot_here", "_law_due", "_law_held"] ["_law_shelves", "_law_lot", "_law_spot_here", "_law_due"] (aB gO):=⟨rfl,rfl,rfl,by decide +kernel,rfl,by decide +kernel,by decide +kernel⟩
theorem atO:fD (a1L K A) (aB gO)=true:=by kernel_rfl
theorem xM:kB (a1L K A) 0 pI (aG gO)=true:=by kernel_rfl
theorem atP:(fun EX=>mB (a1L K A).gl K (fun _=>EX) pI)=fun EX=>sX K A (fun _=>EX):=by kernel_rfl
theorem aq0 (T:Txt K mg A):dH false P w K mg base (tQ P w) 7 A.pC A.a8F ["_law_shelves", "_law_lot", "_law_spot_here", "_law_due"] (gB K (gF K A)):=by
  have h:=bG (qt:=false) (P:=P) (w:=w) (mg:=mg) (base:=base) (k:=6) (S:=a1L K A) (c:=pI) T.a8S apZ rfl atO xM (fC (⟨_,_,_,[],[],T.aX,T.a8P,(ahT T).mono (by decide),T.a8O,.nil,fun _ => .nil⟩)
    (fC (⟨_,_,_,[],[],T.aX,T.vL,(a1Q T).mono (by decide),T.vK,.nil,fun _ => .nil⟩)
    (fC ⟨_,_,_,(am0 T).mono (by decide),T.ad8,T.a66.kp,T.ad7⟩
    (fC (⟨_,_,_,[],[],T.aX,T.vJ,(a1P T).mono (by decide),T.vI,.nil,fun _ => .nil⟩)
    (fC (⟨_,_,_,[],[],T.aX,T.a4F,(adJ T).mono (by decide),T.a4E,.nil,fun _ => .nil⟩)
    (fC (⟨_,_,_,[],[],T.aX,T.a7B,(afJ T).mono (by decide),T.a7A,.nil,fun _ => .nil⟩)
    (fC ⟨T.aDO,aG7⟩
    (fC ⟨T.nR,o9⟩
    (fC ⟨T.aiE,aiW⟩
    gln)))))))))
  rw [atP] at h
  exact h
theorem atQ:bI ["_law_shelves", "_law_lot", "_law_spot_here", "_law_amount", "_law_e"] ["_law_shelves", "_law_lot", "_law_spot_here", "_law_amount"] (aB jF):=⟨rfl,rfl,rfl,by decide +kernel,rfl,by decide +kernel,by decide +kernel⟩
theorem aw6:fD (a65 K A) (aB jF)=true:=by kernel_rfl
theorem a0P:kB (a65 K A) 0 sI (aG jF)=true:=by kernel_rfl
theorem aw7:(fun EX=>mB (a65 K A).gl K (fun _=>EX) sI)=fun EX=>vB K A (fun _=>EX):=by kernel_rfl
theorem atR (T:Txt K mg A):dH false P w K mg base (tQ P w) 9 A.rW A.abY ["_law_shelves", "_law_lot", "_law_spot_here", "_law_amount"] (gB K (pJ K A)):=by
  have h:=bG (qt:=false) (P:=P) (w:=w) (mg:=mg) (base:=base) (k:=8) (S:=a65 K A) (c:=sI) T.ac2 atQ rfl aw6 a0P (fC ⟨T.a68,T.nP,T.j4,T.lX,T.j5⟩
    (fC (⟨_,_,_,[],[],T.aX,T.abC,(ak5 T).mono (by decide),T.abB,.nil,fun _ => .nil⟩)
    (fC ⟨_,_,_,(a98 T).mono (by decide),T.a2Y,T.wI.kp,T.a2X⟩
    gln)))
  rw [aw7] at h
  exact h
theorem am3:bI ["_law_shelves", "_law_lot", "_law_spot_here", "_law_amount", "_law_e"] ["_law_shelves", "_law_lot", "_law_spot_here", "_law_amount"] (aB eG):=⟨rfl,rfl,rfl,by decide +kernel,rfl,by decide +kernel,by decide +kernel⟩
theorem aq1:fD (zG K A) (aB eG)=true:=by kernel_rfl
theorem uD:kB (zG K A) 0 nO (aG eG)=true:=by kernel_rfl
theorem aq2:(fun EX=>mB (zG K A).gl K (fun _=>EX) nO)=fun EX=>zF K A (fun _=>EX):=by kernel_rfl
theorem am4 (T:Txt K mg A):dH false P w K mg base (tQ P w) 9 A.nF A.a5N ["_law_shelves", "_law_lot", "_law_spot_here", "_law_amount"] (gB K (qX K A)):=by
  have h:=bG (qt:=false) (P:=P) (w:=w) (mg:=mg) (base:=base) (k:=8) (S:=zG K A) (c:=nO) T.a67 am3 rfl aq1 uD (fC ⟨T.a68,T.nP,T.j4,T.lX,T.j5⟩
    (fC (⟨_,_,_,[],[],T.aX,T.a8M,(ahP T).mono (by decide),T.a8L,.nil,fun _ => .nil⟩)
    (fC ⟨_,_,_,(a98 T).mono (by decide),T.a2Y,T.wI.kp,T.a2X⟩
    gln)))
  rw [aq2] at h
  exact h
theorem aQR:bI ["_law_script", "_law_plan_here", "_law_spot_here", "_law_lot", "_law_cell", "_law_room", "_law_shelves", "_law_more", "_law_amount", "_law_less", "_law_taken_here"] ["_law_script"] (aB a8A):=⟨rfl,rfl,rfl,by decide +kernel,rfl,by decide +kernel,by decide +kernel⟩
theorem aVO:fD (ay0 K A) (aB a8A)=true:=by kernel_rfl
theorem atU:kB (ay0 K A) 0 ajO (aG a8A)=true:=by kernel_rfl
theorem aVP:(fun EX=>mB (ay0 K A).gl K (fun _=>EX) ajO)=fun EX=>axZ K A (fun _=>EX):=by kernel_rfl
theorem aQS (T:Txt K mg A):dH false P w K mg base (tQ P w) 10 A.agE A.aDK ["_law_script"] (gB K (apG K A)):=by
  have h:=bG (qt:=false) (P:=P) (w:=w) (mg:=mg) (base:=base) (k:=9) (S:=ay0 K A) (c:=ajO) T.aL4 aQR rfl aVO atU (fC ⟨_,_,_,(apV T).mono (by decide),T.agL,T.a8Q.kp,T.agK⟩
    (fC ⟨_,_,_,(a7C T).mono (by decide),T.a0F,T.u6.kp,T.a0E⟩
    (fC ⟨_,_,_,(apY T).mono (by decide),T.agN,T.a8R.kp,T.agM⟩
    (fC (⟨_,_,_,_,[],[],rfl,T.ac3,(yL T).mono (by decide),T.ac4,T.a0C,.nil,fun _ => .nil⟩)
    (fC (T.a0D.elim fun t b=>⟨_,_,_,_,[.int 1000 t],[.int 1000],rfl,T.ac3,(yL T).mono (by decide),T.ac4,b,.cons ⟨t,rfl⟩ .nil,fun _ => .cons (.int _) .nil⟩)
    (fC ⟨T.aL5,aNK⟩
    (fC ⟨_,_,_,(aq0 T).mono (by decide),T.agP,T.a8S.kp,T.agO⟩
    (fC ⟨_,_,_,(atR T).mono (by decide),T.ajV,T.ac2.kp,T.ajU⟩
    (fC ⟨_,_,_,(am4 T).mono (by decide),T.adA,T.a67.kp,T.ad9⟩
    gln)))))))))
  rw [aVP] at h
  exact h
end
def ay6 (K:Fg):Sp:=fun vs H Q _=>∃ (a:Addr) (ns:List Int),vs=[.ref a]∧SqL K H a (ns.map V.int)∧ns.length≤63∧∀ H',Q (.bl true) H'
theorem aJS {K:Fg} {mg:Str→Option Value} {A:c7} (T:Txt K mg A):∀ vs H Q E,ay6 K vs H Q E→gB K (apG K A) vs H Q E:=by
  rintro vs H Q E ⟨a,ns,rfl,hS,hl,k⟩
  refine ⟨[.ref a],fun b=>if b=a then some (.rol (ns.map D.int)) else none,fun d _=>d = .bl true,fun _ _=>False,.cons (.ref a) .nil,fun b o e=>?_,main T a ns hl _ (if_pos rfl),fun v H' d G' r g e=>?_,fun C H' G' g z=>z.elim⟩
  · have e2:(if b=a then some (GO.rol (ns.map D.int)) else none)=some o:=e
    by_cases hb:b=a
    · subst hb
      rw [if_pos rfl] at e2
      cases e2
      exact ⟨_,hS,iG.ints ns⟩
    · rw [if_neg hb] at e2
      cases e2
  · subst e
    cases r
    exact k H'
theorem all_mk {l:PySem.W.OpenLaw} {w:World} {K:Fg} {h:Heap} {mg:Str→Option Value} {fa:Addr} (XK:K.In h) (GG:h.Ns mainGlobals mg) (hfa:mg "law" = some (.ref fa))
    {cC:Addr}
    {aL:Addr}
    {cA:Addr}
    {cY:Addr}
    {cZ:Addr}
    {bA:Addr}
    {cB:Addr}
    {aR:Addr}
    {aiF:Addr} {aE3 atV:Option Addr} {aE4:Array (Option Value)} {aE5 atX atY atZ akD au0:Value}
    {a6B:Addr} {au1 agR:Option Addr} {au2:Array (Option Value)} {au3 agS agT agU a99 agV:Value}
    {aaK:Addr} {aw8 akE:Option Addr} {aw9:Array (Option Value)} {awA akF akG akH ac7 akI:Value}
    {a1R:Addr} {aq3 adK:Option Addr} {aq4:Array (Option Value)} {aq5 adL adM adN a6C adO:Value}
    {aaL:Addr} {awB akJ:Option Addr} {awC:Array (Option Value)} {awD akK akL akM ac8 akN:Value}
    {a1S:Addr} {aq6 adP:Option Addr} {aq7:Array (Option Value)} {aq8 adQ adR adS a6D adT:Value}
    {adU:Addr} {aA6 anH:Option Addr} {aA7:Array (Option Value)} {aA8 anI anJ anK afK anL:Value}
    {a6E:Addr} {au4 agW:Option Addr} {au5:Array (Option Value)} {au6 agX agY agZ a9A ah0:Value}
    {a6F:Addr} {au7 ah1:Option Addr} {au8:Array (Option Value)} {au9 ah2 ah3 ah4 a9B ah5:Value}
    {wJ:Addr} {akO a9C:Option Addr} {akP:Array (Option Value)} {akQ a9D a9E a9F a0Q a9G:Value}
    {adV:Addr} {aA9 anM:Option Addr} {aAA:Array (Option Value)} {aAB anN anO anP afL anQ:Value}
    {a6G:Addr} {auA ah6:Option Addr} {auB:Array (Option Value)} {auC ah7 ah8 ah9 a9H ahA:Value}
    {jV:Addr} {aaP yM:Option Addr} {aaQ:Array (Option Value)} {aaR yN yO yP qP yQ:Value}
    {qQ:Addr} {aaS:Value} {aaT:Option Addr} {aaU:Array (Option Value)} {yR:Tok} {aaV:Nat}
    {mW:Addr} {adW a1T:Option Addr} {adX:Array (Option Value)} {adY a1U a1V a1W uE a1X:Value}
    {iW:Addr} {a9I xO:Option Addr} {a9J:Array (Option Value)} {a9K xP xQ xR pX xT:Value}
    {rH:Addr} {akR a9L:Option Addr} {akS:Array (Option Value)} {akT a9M a9N a9O a0R a9P:Value}
    {mX:Addr} {adZ a1Y:Option Addr} {ae0:Array (Option Value)} {ae1 a1Z a2A a2B uF a2C:Value}
    {gU:Addr} {a7V uN:Option Addr} {a7W:Array (Option Value)} {a7X uO uP uQ oH uR:Value}
    {pY:Addr} {ahX a7D:Option Addr} {ahY:Array (Option Value)} {ahZ a7E a7F a7G xX a7H:Value}
    {o7:Addr} {afM a4J:Option Addr} {afN:Array (Option Value)} {afO a4K a4L a4M vP a4N:Value}
    {pZ:Addr} {ai0 a7I:Option Addr} {ai1:Array (Option Value)} {ai2 a7J a7K a7L xY a7M:Value}
    {mY:Addr} {ae2 a2D:Option Addr} {ae3:Array (Option Value)} {ae4 a2E a2F a2G uG a2H:Value}
    {o8:Addr} {afP a4O:Option Addr} {afQ:Array (Option Value)} {afR a4P a4Q a4R vQ a4S:Value}
    {uH:Addr} {ai3 a7N:Option Addr} {ai4:Array (Option Value)} {ai5 a7O a7P a7Q xZ a7R:Value}
    {zH:Addr} {am5 abD:Option Addr} {am6:Array (Option Value)} {am7 abE abF abG a2Z abH:Value}
    {a2I:Addr} {aq9 ae5:Option Addr} {aqA:Array (Option Value)} {aqB ae6 ae7 ae8 a6H ae9:Value}
    {a2J:Addr} {aqC aeA:Option Addr} {aqD:Array (Option Value)} {aqE aeB aeC aeD a6I aeE:Value}
    {wK:Addr} {akU a9Q:Option Addr} {akV:Array (Option Value)} {akW a9R a9S a9T a0S a9U:Value}
    {a2K:Addr} {aqF aeF:Option Addr} {aqG:Array (Option Value)} {aqH aeG aeH aeI a6J aeJ:Value}
    {a6K:Addr} {auD ahB:Option Addr} {auE:Array (Option Value)} {auF ahC ahD ahE a9V ahF:Value}
    {zJ:Addr} {am8 abI:Option Addr} {am9:Array (Option Value)} {amA abJ abK abL a3A abM:Value}
    {aE6:Addr} {aQT aE7:Option Addr} {aQU:Array (Option Value)} {aQV aE8 aE9 aEA awE aEB:Value}
    {abN:Tok}
    {abO:Tok}
    {abP:Tok}
    {akX:Tok}
    {ahG:Tok}
    (a5L:PySem.W.nsIn K mainGlobals "_wall" = some (some (.ref aiF)))
    (aqI:K.lookup aiF=some ⟨aE5,aE3,.func (PySem.W.fnOf "_wall" "_wall" (aJ tV) (aG tV) (aB tV) .none atX atY atZ atV akD au0),aE4⟩)
    (a5O:PySem.W.codeIn K akD "_wall" = true)
    (adE:PySem.W.keepIn K (.ref aiF)=true)
    (rP:PySem.W.nsIn K mainGlobals "is_whole" = some (some (.ref a6B)))
    (ac9:K.lookup a6B=some ⟨au3,au1,.func (PySem.W.fnOf "is_whole" "is_whole" (aJ jB) (aG jB) (aB jB) .none agS agT agU agR a99 agV),au2⟩)
    (rY:PySem.W.codeIn K a99 "is_whole" = true)
    (a0K:PySem.W.keepIn K (.ref a6B)=true)
    (uW:PySem.W.nsIn K mainGlobals "is_pair" = some (some (.ref aaK)))
    (afS:K.lookup aaK=some ⟨awA,aw8,.func (PySem.W.fnOf "is_pair" "is_pair" (aJ m9) (aG m9) (aB m9) .none akF akG akH akE ac7 akI),aw9⟩)
    (v8:PySem.W.codeIn K ac7 "is_pair" = true)
    (a4H:PySem.W.keepIn K (.ref aaK)=true)
    (oZ:PySem.W.nsIn K mainGlobals "is_amount" = some (some (.ref a1R)))
    (a9W:K.lookup a1R=some ⟨aq5,aq3,.func (PySem.W.fnOf "is_amount" "is_amount" (aJ gH) (aG gH) (aB gH) .none adL adM adN adK a6C adO),aq4⟩)
    (pD:PySem.W.codeIn K a6C "is_amount" = true)
    (xF:PySem.W.keepIn K (.ref a1R)=true)
    (uX:PySem.W.nsIn K mainGlobals "is_plan" = some (some (.ref aaL)))
    (afT:K.lookup aaL=some ⟨awD,awB,.func (PySem.W.fnOf "is_plan" "is_plan" (aJ mD) (aG mD) (aB mD) .none akK akL akM akJ ac8 akN),awC⟩)
    (v9:PySem.W.codeIn K ac8 "is_plan" = true)
    (a4I:PySem.W.keepIn K (.ref aaL)=true)
    (p7:PySem.W.nsIn K mainGlobals "need_plan" = some (some (.ref a1S)))
    (a9X:K.lookup a1S=some ⟨aq8,aq6,.func (PySem.W.fnOf "need_plan" "need_plan" (aJ gJ) (aG gJ) (aB gJ) .none adQ adR adS adP a6D adT),aq7⟩)
    (pF:PySem.W.codeIn K a6D "need_plan" = true)
    (xG:PySem.W.keepIn K (.ref a1S)=true)
    (zW:PySem.W.nsIn K mainGlobals "is_bin" = some (some (.ref adU)))
    (akY:K.lookup adU=some ⟨aA8,aA6,.func (PySem.W.fnOf "is_bin" "is_bin" (aJ oX) (aG oX) (aB oX) .none anI anJ anK anH afK anL),aA7⟩)
    (a02:PySem.W.codeIn K afK "is_bin" = true)
    (a92:PySem.W.keepIn K (.ref adU)=true)
    (rQ:PySem.W.nsIn K mainGlobals "need_lot" = some (some (.ref a6E)))
    (acA:K.lookup a6E=some ⟨au6,au4,.func (PySem.W.fnOf "need_lot" "need_lot" (aJ jC) (aG jC) (aB jC) .none agX agY agZ agW a9A ah0),au5⟩)
    (rZ:PySem.W.codeIn K a9A "need_lot" = true)
    (a0L:PySem.W.keepIn K (.ref a6E)=true)
    (rR:PySem.W.nsIn K mainGlobals "need_bin" = some (some (.ref a6F)))
    (acB:K.lookup a6F=some ⟨au9,au7,.func (PySem.W.fnOf "need_bin" "need_bin" (aJ jD) (aG jD) (aB jD) .none ah2 ah3 ah4 ah1 a9B ah5),au8⟩)
    (sE:PySem.W.codeIn K a9B "need_bin" = true)
    (a0M:PySem.W.keepIn K (.ref a6F)=true)
    (lO:PySem.W.nsIn K mainGlobals "need_amount" = some (some (.ref wJ)))
    (a3B:K.lookup wJ=some ⟨akQ,akO,.func (PySem.W.fnOf "need_amount" "need_amount" (aJ d9) (aG d9) (aB d9) .none a9D a9E a9F a9C a0Q a9G),akP⟩)
    (lU:PySem.W.codeIn K a0Q "need_amount" = true)
    (rF:PySem.W.keepIn K (.ref wJ)=true)
    (zX:PySem.W.nsIn K mainGlobals "change" = some (some (.ref adV)))
    (akZ:K.lookup adV=some ⟨aAB,aA9,.func (PySem.W.fnOf "change" "change" (aJ oY) (aG oY) (aB oY) .none anN anO anP anM afL anQ),aAA⟩)
    (a03:PySem.W.codeIn K afL "change" = true)
    (a93:PySem.W.keepIn K (.ref adV)=true)
    (rT:PySem.W.nsIn K mainGlobals "in_order" = some (some (.ref a6G)))
    (acC:K.lookup a6G=some ⟨auC,auA,.func (PySem.W.fnOf "in_order" "in_order" (aJ jE) (aG jE) (aB jE) .none ah7 ah8 ah9 ah6 a9H ahA),auB⟩)
    (sG:PySem.W.codeIn K a9H "in_order" = true)
    (a0O:PySem.W.keepIn K (.ref a6G)=true)
    (cF:PySem.W.findIn K (.ref cC) "__init__" = some (some (.ref jV)))
    (nT:PySem.W.isFn K (.ref jV)=true)
    (sU:K.lookup jV=some ⟨aaR,aaP,.func (PySem.W.fnOf "__init__" "Shelves.__init__" (aJ bK) (aG bK) (aB bK) (.ref qQ) yN yO yP yM qP yQ),aaQ⟩)
    (dG:PySem.W.codeIn K qP "Shelves.__init__" = true)
    (fZ:PySem.W.keepIn K (.ref jV)=true)
    (gA:K.lookup qQ=some ⟨aaS,aaT,.seq #[.int 1000 yR] aaV,aaU⟩)
    (fM:PySem.W.findIn K (.ref cC) "filled" = some (some (.ref mW)))
    (vR:PySem.W.isFn K (.ref mW)=true)
    (vU:K.lookup mW=some ⟨adY,adW,.func (PySem.W.fnOf "filled" "Shelves.filled" (aJ bU) (aG bU) (aB bU) .none a1U a1V a1W a1T uE a1X),adX⟩)
    (fQ:PySem.W.codeIn K uE "Shelves.filled" = true)
    (j8:PySem.W.keepIn K (.ref mW)=true)
    (cW:PySem.W.findIn K (.ref cC) "need_room" = some (some (.ref iW)))
    (qR:PySem.W.isFn K (.ref iW)=true)
    (qT:K.lookup iW=some ⟨a9K,a9I,.func (PySem.W.fnOf "need_room" "Shelves.need_room" (aJ bC) (aG bC) (aB bC) .none xP xQ xR xO pX xT),a9J⟩)
    (cX:PySem.W.codeIn K pX "Shelves.need_room" = true)
    (fB:PySem.W.keepIn K (.ref iW)=true)
    (lQ:PySem.W.findIn K (.ref cC) "put" = some (some (.ref rH)))
    (a3C:PySem.W.isFn K (.ref rH)=true)
    (a3D:K.lookup rH=some ⟨akT,akR,.func (PySem.W.fnOf "put" "Shelves.put" (aJ dB) (aG dB) (aB dB) .none a9M a9N a9O a9L a0R a9P),akS⟩)
    (lV:PySem.W.codeIn K a0R "Shelves.put" = true)
    (oG:PySem.W.keepIn K (.ref rH)=true)
    (fO:PySem.W.findIn K (.ref cC) "amount" = some (some (.ref mX)))
    (vV:PySem.W.isFn K (.ref mX)=true)
    (vW:K.lookup mX=some ⟨ae1,adZ,.func (PySem.W.fnOf "amount" "Shelves.amount" (aJ bV) (aG bV) (aB bV) .none a1Z a2A a2B a1Y uF a2C),ae0⟩)
    (fU:PySem.W.codeIn K uF "Shelves.amount" = true)
    (j9:PySem.W.keepIn K (.ref mX)=true)
    (cQ:PySem.W.findIn K (.ref cC) "need_there" = some (some (.ref gU)))
    (qC:PySem.W.isFn K (.ref gU)=true)
    (qD:K.lookup gU=some ⟨a7X,a7V,.func (PySem.W.fnOf "need_there" "Shelves.need_there" (aJ aZ) (aG aZ) (aB aZ) .none uO uP uQ uN oH uR),a7W⟩)
    (cR:PySem.W.codeIn K oH "Shelves.need_there" = true)
    (dR:PySem.W.keepIn K (.ref gU)=true)
    (jG:PySem.W.findIn K (.ref cC) "take" = some (some (.ref pY)))
    (a0T:PySem.W.isFn K (.ref pY)=true)
    (a0U:K.lookup pY=some ⟨ahZ,ahX,.func (PySem.W.fnOf "take" "Shelves.take" (aJ cN) (aG cN) (aB cN) .none a7E a7F a7G a7D xX a7H),ahY⟩)
    (jK:PySem.W.codeIn K xX "Shelves.take" = true)
    (mU:PySem.W.keepIn K (.ref pY)=true)
    (iH:PySem.W.findIn K (.ref cC) "shift" = some (some (.ref o7)))
    (yC:PySem.W.isFn K (.ref o7)=true)
    (yD:K.lookup o7=some ⟨afO,afM,.func (PySem.W.fnOf "shift" "Shelves.shift" (aJ cG) (aG cG) (aB cG) .none a4K a4L a4M a4J vP a4N),afN⟩)
    (iJ:PySem.W.codeIn K vP "Shelves.shift" = true)
    (kJ:PySem.W.keepIn K (.ref o7)=true)
    (jH:PySem.W.findIn K (.ref cC) "held" = some (some (.ref pZ)))
    (a0V:PySem.W.isFn K (.ref pZ)=true)
    (a0W:K.lookup pZ=some ⟨ai2,ai0,.func (PySem.W.fnOf "held" "Shelves.held" (aJ cO) (aG cO) (aB cO) .none a7J a7K a7L a7I xY a7M),ai1⟩)
    (jL:PySem.W.codeIn K xY "Shelves.held" = true)
    (mV:PySem.W.keepIn K (.ref pZ)=true)
    (fP:PySem.W.findIn K (.ref cC) "places" = some (some (.ref mY)))
    (vX:PySem.W.isFn K (.ref mY)=true)
    (vY:K.lookup mY=some ⟨ae4,ae2,.func (PySem.W.fnOf "places" "Shelves.places" (aJ bW) (aG bW) (aB bW) .none a2E a2F a2G a2D uG a2H),ae3⟩)
    (fV:PySem.W.codeIn K uG "Shelves.places" = true)
    (jA:PySem.W.keepIn K (.ref mY)=true)
    (iI:PySem.W.findIn K (.ref cC) "lying" = some (some (.ref o8)))
    (yE:PySem.W.isFn K (.ref o8)=true)
    (yF:K.lookup o8=some ⟨afR,afP,.func (PySem.W.fnOf "lying" "Shelves.lying" (aJ cH) (aG cH) (aB cH) .none a4P a4Q a4R a4O vQ a4S),afQ⟩)
    (iK:PySem.W.codeIn K vQ "Shelves.lying" = true)
    (kW:PySem.W.keepIn K (.ref o8)=true)
    (jJ:PySem.W.nsIn K mainGlobals "_law_cell_at" = some (some (.ref uH)))
    (a0X:K.lookup uH=some ⟨ai5,ai3,.func (PySem.W.fnOf "_law_cell_at" "_law_cell_at" (aJ cP) (aG cP) (aB cP) .none a7O a7P a7Q a7N xZ a7R),ai4⟩)
    (jM:PySem.W.codeIn K xZ "_law_cell_at" = true)
    (pW:PySem.W.keepIn K (.ref uH)=true)
    (nD:PySem.W.nsIn K mainGlobals "_law_whole" = some (some (.ref zH)))
    (a6L:K.lookup zH=some ⟨am7,am5,.func (PySem.W.fnOf "_law_whole" "_law_whole" (aJ eF) (aG eF) (aB eF) .none abE abF abG abD a2Z abH),am6⟩)
    (nM:PySem.W.codeIn K a2Z "_law_whole" = true)
    (u9:PySem.W.keepIn K (.ref zH)=true)
    (pA:PySem.W.nsIn K mainGlobals "_law_plan" = some (some (.ref a2I)))
    (a9Y:K.lookup a2I=some ⟨aqB,aq9,.func (PySem.W.fnOf "_law_plan" "_law_plan" (aJ gK) (aG gK) (aB gK) .none ae6 ae7 ae8 ae5 a6H ae9),aqA⟩)
    (pG:PySem.W.codeIn K a6H "_law_plan" = true)
    (xJ:PySem.W.keepIn K (.ref a2I)=true)
    (pB:PySem.W.nsIn K mainGlobals "_law_spot" = some (some (.ref a2J)))
    (a9Z:K.lookup a2J=some ⟨aqE,aqC,.func (PySem.W.fnOf "_law_spot" "_law_spot" (aJ gM) (aG gM) (aB gM) .none aeB aeC aeD aeA a6I aeE),aqD⟩)
    (pH:PySem.W.codeIn K a6I "_law_spot" = true)
    (xK:PySem.W.keepIn K (.ref a2J)=true)
    (lR:PySem.W.nsIn K mainGlobals "_law_raised" = some (some (.ref wK)))
    (a3E:K.lookup wK=some ⟨akW,akU,.func (PySem.W.fnOf "_law_raised" "_law_raised" (aJ dD) (aG dD) (aB dD) .none a9R a9S a9T a9Q a0S a9U),akV⟩)
    (lW:PySem.W.codeIn K a0S "_law_raised" = true)
    (rG:PySem.W.keepIn K (.ref wK)=true)
    (pC:PySem.W.nsIn K mainGlobals "_law_told" = some (some (.ref a2K)))
    (aa0:K.lookup a2K=some ⟨aqH,aqF,.func (PySem.W.fnOf "_law_told" "_law_told" (aJ gO) (aG gO) (aB gO) .none aeG aeH aeI aeF a6J aeJ),aqG⟩)
    (pI:PySem.W.codeIn K a6J "_law_told" = true)
    (xM:PySem.W.keepIn K (.ref a2K)=true)
    (rW:PySem.W.nsIn K mainGlobals "_law_put" = some (some (.ref a6K)))
    (acD:K.lookup a6K=some ⟨auF,auD,.func (PySem.W.fnOf "_law_put" "_law_put" (aJ jF) (aG jF) (aB jF) .none ahC ahD ahE ahB a9V ahF),auE⟩)
    (sI:PySem.W.codeIn K a9V "_law_put" = true)
    (a0P:PySem.W.keepIn K (.ref a6K)=true)
    (nF:PySem.W.nsIn K mainGlobals "_law_taken" = some (some (.ref zJ)))
    (a6M:K.lookup zJ=some ⟨amA,am8,.func (PySem.W.fnOf "_law_taken" "_law_taken" (aJ eG) (aG eG) (aB eG) .none abJ abK abL abI a3A abM),am9⟩)
    (nO:PySem.W.codeIn K a3A "_law_taken" = true)
    (uD:PySem.W.keepIn K (.ref zJ)=true)
    (agE:PySem.W.nsIn K mainGlobals "law" = some (some (.ref aE6)))
    (aEC:K.lookup aE6=some ⟨aQV,aQT,.func (PySem.W.fnOf "law" "law" (aJ a8A) (aG a8A) (aB a8A) .none aE8 aE9 aEA aE7 awE aEB),aQU⟩)
    (ajO:PySem.W.codeIn K awE "law" = true)
    (atU:PySem.W.keepIn K (.ref aE6)=true)
    (acE:PySem.W.nsIn K mainGlobals "Shelves" = some (some (.ref cC)))
    (acF:PySem.W.plainGet K cC Str.empty=true)
    (acG:PySem.W.hasDictIn K cC=true)
    (acH:PySem.W.plainOver K cC=true)
    (acI:PySem.W.findIn K (.ref cC) "__setattr__" = some (some (.builtin "object.__setattr__")))
    (acJ:PySem.W.makesIn K cC=true)
    (acK:PySem.W.keepIn K (.ref cC)=true)
    (uI:PySem.W.findIn K (.ref cC) "layout" = some none)
    (yG:PySem.W.findIn K (.ref cC) "room" = some none)
    (uJ:PySem.W.findIn K (.ref cC) "stacks" = some none)
    (a6N:PySem.W.nsIn K mainGlobals "DepotError" = some (some (.ref aL)))
    (nP:PySem.W.excIn K aL [.type "ValueError",.type "Exception",.type "BaseException",.type "object"] "ValueError.__new__" = true)
    (j4:(PySem.W.clsIn K aL).isSome=true)
    (lX:PySem.W.typeIn K (.ref aL)=some (.type "type"))
    (j5:PySem.W.subIn K (.ref aL) (.type "BaseException")=some true)
    (a3F:PySem.W.findIn K (.ref aL) "__getattribute__" = some (some (.builtin "BaseException.__getattribute__")))
    (a3G:PySem.W.findIn K (.ref aL) "__getattr__" = some none)
    (a3H:PySem.W.findIn K (.ref aL) "__class__" = some (some (.builtin "object.__class__")))
    (a3I:PySem.W.mroIn K aL (.type "object")=some true)
    (qZ:PySem.W.kitOne K (.ref aL) (.type "ValueError")=some true)
    (al0:PySem.W.nsIn K mainGlobals "NoPlan" = some (some (.ref cA)))
    (a0G:PySem.W.excIn K cA [.type "ValueError",.type "Exception",.type "BaseException",.type "object"] "ValueError.__new__" = true)
    (sY:(PySem.W.clsIn K cA).isSome=true)
    (vM:PySem.W.typeIn K (.ref cA)=some (.type "type"))
    (sZ:PySem.W.subIn K (.ref cA) (.type "BaseException")=some true)
    (afU:PySem.W.findIn K (.ref cA) "__getattribute__" = some (some (.builtin "BaseException.__getattribute__")))
    (afV:PySem.W.findIn K (.ref cA) "__getattr__" = some none)
    (afW:PySem.W.findIn K (.ref cA) "__class__" = some (some (.builtin "object.__class__")))
    (afX:PySem.W.mroIn K cA (.type "object")=some true)
    (a4G:PySem.W.kitOne K (.ref cA) (.type "ValueError")=some true)
    (aqJ:PySem.W.nsIn K mainGlobals "NoBin" = some (some (.ref cY)))
    (a69:PySem.W.excIn K cY [.type "ValueError",.type "Exception",.type "BaseException",.type "object"] "ValueError.__new__" = true)
    (xA:(PySem.W.clsIn K cY).isSome=true)
    (a0H:PySem.W.typeIn K (.ref cY)=some (.type "type"))
    (xB:PySem.W.subIn K (.ref cY) (.type "BaseException")=some true)
    (al1:PySem.W.findIn K (.ref cY) "__getattribute__" = some (some (.builtin "BaseException.__getattribute__")))
    (al2:PySem.W.findIn K (.ref cY) "__getattr__" = some none)
    (al3:PySem.W.findIn K (.ref cY) "__class__" = some (some (.builtin "object.__class__")))
    (al4:PySem.W.mroIn K cY (.type "object")=some true)
    (a8T:PySem.W.kitOne K (.ref cY) (.type "ValueError")=some true)
    (aqK:PySem.W.nsIn K mainGlobals "NoLot" = some (some (.ref cZ)))
    (a6A:PySem.W.excIn K cZ [.type "ValueError",.type "Exception",.type "BaseException",.type "object"] "ValueError.__new__" = true)
    (xC:(PySem.W.clsIn K cZ).isSome=true)
    (a0I:PySem.W.typeIn K (.ref cZ)=some (.type "type"))
    (xD:PySem.W.subIn K (.ref cZ) (.type "BaseException")=some true)
    (al5:PySem.W.findIn K (.ref cZ) "__getattribute__" = some (some (.builtin "BaseException.__getattribute__")))
    (al6:PySem.W.findIn K (.ref cZ) "__getattr__" = some none)
    (al7:PySem.W.findIn K (.ref cZ) "__class__" = some (some (.builtin "object.__class__")))
    (al8:PySem.W.mroIn K cZ (.type "object")=some true)
    (a8U:PySem.W.kitOne K (.ref cZ) (.type "ValueError")=some true)
    (acL:PySem.W.nsIn K mainGlobals "NoAmount" = some (some (.ref bA)))
    (sO:PySem.W.excIn K bA [.type "ValueError",.type "Exception",.type "BaseException",.type "object"] "ValueError.__new__" = true)
    (mZ:(PySem.W.clsIn K bA).isSome=true)
    (pK:PySem.W.typeIn K (.ref bA)=some (.type "type"))
    (n6:PySem.W.subIn K (.ref bA) (.type "BaseException")=some true)
    (aa1:PySem.W.findIn K (.ref bA) "__getattribute__" = some (some (.builtin "BaseException.__getattribute__")))
    (aa2:PySem.W.findIn K (.ref bA) "__getattr__" = some none)
    (aa3:PySem.W.findIn K (.ref bA) "__class__" = some (some (.builtin "object.__class__")))
    (aa4:PySem.W.mroIn K bA (.type "object")=some true)
    (xE:PySem.W.kitOne K (.ref bA) (.type "ValueError")=some true)
    (al9:PySem.W.nsIn K mainGlobals "NoRoom" = some (some (.ref cB)))
    (a0J:PySem.W.excIn K cB [.type "ValueError",.type "Exception",.type "BaseException",.type "object"] "ValueError.__new__" = true)
    (tD:(PySem.W.clsIn K cB).isSome=true)
    (vN:PySem.W.typeIn K (.ref cB)=some (.type "type"))
    (tE:PySem.W.subIn K (.ref cB) (.type "BaseException")=some true)
    (afY:PySem.W.findIn K (.ref cB) "__getattribute__" = some (some (.builtin "BaseException.__getattribute__")))
    (afZ:PySem.W.findIn K (.ref cB) "__getattr__" = some none)
    (ag0:PySem.W.findIn K (.ref cB) "__class__" = some (some (.builtin "object.__class__")))
    (ag1:PySem.W.mroIn K cB (.type "object")=some true)
    (zO:PySem.W.kitOne K (.ref cB) (.type "ValueError")=some true)
    (aa5:PySem.W.nsIn K mainGlobals "TooLittle" = some (some (.ref aR)))
    (pL:PySem.W.excIn K aR [.type "ValueError",.type "Exception",.type "BaseException",.type "object"] "ValueError.__new__" = true)
    (lD:(PySem.W.clsIn K aR).isSome=true)
    (nQ:PySem.W.typeIn K (.ref aR)=some (.type "type"))
    (lE:PySem.W.subIn K (.ref aR) (.type "BaseException")=some true)
    (a6O:PySem.W.findIn K (.ref aR) "__getattribute__" = some (some (.builtin "BaseException.__getattribute__")))
    (a6P:PySem.W.findIn K (.ref aR) "__getattr__" = some none)
    (a6Q:PySem.W.findIn K (.ref aR) "__class__" = some (some (.builtin "object.__class__")))
    (a6R:PySem.W.mroIn K aR (.type "object")=some true)
    (qN:PySem.W.kitOne K (.ref aR) (.type "ValueError")=some true)
    (dM:PySem.W.kitOne K (.ref aL) (.ref aL)=some true)
    (dN:PySem.W.subIn K (.ref aL) (.ref aL)=some true)
    (fH:PySem.W.kitOne K (.ref aL) (.ref bA)=some false)
    (jN:PySem.W.kitOne K (.ref aL) (.ref cY)=some false)
    (jO:PySem.W.kitOne K (.ref aL) (.ref cZ)=some false)
    (iM:PySem.W.kitOne K (.ref aL) (.ref cA)=some false)
    (iQ:PySem.W.kitOne K (.ref aL) (.ref cB)=some false)
    (eX:PySem.W.kitOne K (.ref aL) (.ref aR)=some false)
    (iR:PySem.W.kitOne K (.ref cA) (.ref aL)=some true)
    (iT:PySem.W.subIn K (.ref cA) (.ref aL)=some true)
    (lF:PySem.W.kitOne K (.ref cA) (.ref bA)=some false)
    (pN:PySem.W.kitOne K (.ref cA) (.ref cY)=some false)
    (pO:PySem.W.kitOne K (.ref cA) (.ref cZ)=some false)
    (nY:PySem.W.kitOne K (.ref cA) (.ref cA)=some true)
    (nZ:PySem.W.kitOne K (.ref cA) (.ref cB)=some false)
    (jP:PySem.W.kitOne K (.ref cA) (.ref aR)=some false)
    (jQ:PySem.W.kitOne K (.ref cY) (.ref aL)=some true)
    (jR:PySem.W.subIn K (.ref cY) (.ref aL)=some true)
    (mH:PySem.W.kitOne K (.ref cY) (.ref bA)=some false)
    (rA:PySem.W.kitOne K (.ref cY) (.ref cY)=some true)
    (rB:PySem.W.kitOne K (.ref cY) (.ref cZ)=some false)
    (pP:PySem.W.kitOne K (.ref cY) (.ref cA)=some false)
    (pQ:PySem.W.kitOne K (.ref cY) (.ref cB)=some false)
    (lG:PySem.W.kitOne K (.ref cY) (.ref aR)=some false)
    (jT:PySem.W.kitOne K (.ref cZ) (.ref aL)=some true)
    (jU:PySem.W.subIn K (.ref cZ) (.ref aL)=some true)
    (mJ:PySem.W.kitOne K (.ref cZ) (.ref bA)=some false)
    (rC:PySem.W.kitOne K (.ref cZ) (.ref cY)=some false)
    (rD:PySem.W.kitOne K (.ref cZ) (.ref cZ)=some true)
    (pR:PySem.W.kitOne K (.ref cZ) (.ref cA)=some false)
    (pU:PySem.W.kitOne K (.ref cZ) (.ref cB)=some false)
    (lH:PySem.W.kitOne K (.ref cZ) (.ref aR)=some false)
    (fJ:PySem.W.kitOne K (.ref bA) (.ref aL)=some true)
    (fK:PySem.W.subIn K (.ref bA) (.ref aL)=some true)
    (iU:PySem.W.kitOne K (.ref bA) (.ref bA)=some true)
    (mK:PySem.W.kitOne K (.ref bA) (.ref cY)=some false)
    (mL:PySem.W.kitOne K (.ref bA) (.ref cZ)=some false)
    (lJ:PySem.W.kitOne K (.ref bA) (.ref cA)=some false)
    (lK:PySem.W.kitOne K (.ref bA) (.ref cB)=some false)
    (gR:PySem.W.kitOne K (.ref bA) (.ref aR)=some false)
    (iV:PySem.W.kitOne K (.ref cB) (.ref aL)=some true)
    (f9:PySem.W.subIn K (.ref cB) (.ref aL)=some true)
    (iB:PySem.W.kitOne K (.ref cB) (.ref bA)=some false)
    (mQ:PySem.W.kitOne K (.ref cB) (.ref cY)=some false)
    (mR:PySem.W.kitOne K (.ref cB) (.ref cZ)=some false)
    (jY:PySem.W.kitOne K (.ref cB) (.ref cA)=some false)
    (jZ:PySem.W.kitOne K (.ref cB) (.ref cB)=some true)
    (fW:PySem.W.kitOne K (.ref cB) (.ref aR)=some false)
    (eY:PySem.W.kitOne K (.ref aR) (.ref aL)=some true)
    (cT:PySem.W.subIn K (.ref aR) (.ref aL)=some true)
    (dO:PySem.W.kitOne K (.ref aR) (.ref bA)=some false)
    (iC:PySem.W.kitOne K (.ref aR) (.ref cY)=some false)
    (iD:PySem.W.kitOne K (.ref aR) (.ref cZ)=some false)
    (fX:PySem.W.kitOne K (.ref aR) (.ref cA)=some false)
    (fY:PySem.W.kitOne K (.ref aR) (.ref cB)=some false)
    (d7:PySem.W.kitOne K (.ref aR) (.ref aR)=some true)
    (oA:PySem.W.nsIn K mainGlobals "MOST_AISLES" = some (some (.int 26 abN)))
    (oE:PySem.W.nsIn K mainGlobals "MOST_PLACES" = some (some (.int 99 abO)))
    (oF:PySem.W.nsIn K mainGlobals "MOST_AMOUNT" = some (some (.int 1000000 abP)))
    (vO:PySem.W.nsIn K mainGlobals "MOST_GAP" = some (some (.int 20 akX)))
    (lM:PySem.W.nsIn K mainGlobals "MOST_LOTS" = some (some (.int 1000 ahG)))
    (a6S:PySem.W.nsIn K mainGlobals "ValueError" = some none)
    (awF:PySem.W.nsIn K mainGlobals "bool" = some none)
    (awG:PySem.W.nsIn K mainGlobals "dict" = some none)
    (aED:PySem.W.nsIn K mainGlobals "int" = some none)
    (a6T:PySem.W.nsIn K mainGlobals "isinstance" = some none)
    (aEE:PySem.W.nsIn K mainGlobals "len" = some none)
    (awH:PySem.W.nsIn K mainGlobals "list" = some none)
    (aEF:PySem.W.nsIn K mainGlobals "min" = some none)
    (alA:PySem.W.nsIn K mainGlobals "sorted" = some none)
    (aEG:PySem.W.nsIn K mainGlobals "sum" = some none)
    (aqL:PySem.W.nsIn K mainGlobals "tuple" = some none) :
    ∃ fd:FuncData,(∀ (s:Shared) (v:Value),BindsTo s fd ⟨[v],[]⟩ [("_law_script",v)])∧∀ base:Heap,K.In base→base.Ns mainGlobals mg→dH false l.prog w K mg base (tQ l.prog w) 10 fa fd ["_law_script"] (ay6 K):=by
  have e:=hfa.symm.trans (PySem.W.mg_of XK GG agE)
  cases e
  have T:Txt K mg ⟨aiF,PySem.W.fnOf "_wall" "_wall" (aJ tV) (aG tV) (aB tV) .none atX atY atZ atV akD au0,
    a6B,PySem.W.fnOf "is_whole" "is_whole" (aJ jB) (aG jB) (aB jB) .none agS agT agU agR a99 agV,
    aaK,PySem.W.fnOf "is_pair" "is_pair" (aJ m9) (aG m9) (aB m9) .none akF akG akH akE ac7 akI,
    a1R,PySem.W.fnOf "is_amount" "is_amount" (aJ gH) (aG gH) (aB gH) .none adL adM adN adK a6C adO,
    aaL,PySem.W.fnOf "is_plan" "is_plan" (aJ mD) (aG mD) (aB mD) .none akK akL akM akJ ac8 akN,
    a1S,PySem.W.fnOf "need_plan" "need_plan" (aJ gJ) (aG gJ) (aB gJ) .none adQ adR adS adP a6D adT,
    adU,PySem.W.fnOf "is_bin" "is_bin" (aJ oX) (aG oX) (aB oX) .none anI anJ anK anH afK anL,
    a6E,PySem.W.fnOf "need_lot" "need_lot" (aJ jC) (aG jC) (aB jC) .none agX agY agZ agW a9A ah0,
    a6F,PySem.W.fnOf "need_bin" "need_bin" (aJ jD) (aG jD) (aB jD) .none ah2 ah3 ah4 ah1 a9B ah5,
    wJ,PySem.W.fnOf "need_amount" "need_amount" (aJ d9) (aG d9) (aB d9) .none a9D a9E a9F a9C a0Q a9G,
    adV,PySem.W.fnOf "change" "change" (aJ oY) (aG oY) (aB oY) .none anN anO anP anM afL anQ,
    a6G,PySem.W.fnOf "in_order" "in_order" (aJ jE) (aG jE) (aB jE) .none ah7 ah8 ah9 ah6 a9H ahA,
    jV,PySem.W.fnOf "__init__" "Shelves.__init__" (aJ bK) (aG bK) (aB bK) (.ref qQ) yN yO yP yM qP yQ,
    mW,PySem.W.fnOf "filled" "Shelves.filled" (aJ bU) (aG bU) (aB bU) .none a1U a1V a1W a1T uE a1X,
    iW,PySem.W.fnOf "need_room" "Shelves.need_room" (aJ bC) (aG bC) (aB bC) .none xP xQ xR xO pX xT,
    rH,PySem.W.fnOf "put" "Shelves.put" (aJ dB) (aG dB) (aB dB) .none a9M a9N a9O a9L a0R a9P,
    mX,PySem.W.fnOf "amount" "Shelves.amount" (aJ bV) (aG bV) (aB bV) .none a1Z a2A a2B a1Y uF a2C,
    gU,PySem.W.fnOf "need_there" "Shelves.need_there" (aJ aZ) (aG aZ) (aB aZ) .none uO uP uQ uN oH uR,
    pY,PySem.W.fnOf "take" "Shelves.take" (aJ cN) (aG cN) (aB cN) .none a7E a7F a7G a7D xX a7H,
    o7,PySem.W.fnOf "shift" "Shelves.shift" (aJ cG) (aG cG) (aB cG) .none a4K a4L a4M a4J vP a4N,
    pZ,PySem.W.fnOf "held" "Shelves.held" (aJ cO) (aG cO) (aB cO) .none a7J a7K a7L a7I xY a7M,
    mY,PySem.W.fnOf "places" "Shelves.places" (aJ bW) (aG bW) (aB bW) .none a2E a2F a2G a2D uG a2H,
    o8,PySem.W.fnOf "lying" "Shelves.lying" (aJ cH) (aG cH) (aB cH) .none a4P a4Q a4R a4O vQ a4S,
    uH,PySem.W.fnOf "_law_cell_at" "_law_cell_at" (aJ cP) (aG cP) (aB cP) .none a7O a7P a7Q a7N xZ a7R,
    zH,PySem.W.fnOf "_law_whole" "_law_whole" (aJ eF) (aG eF) (aB eF) .none abE abF abG abD a2Z abH,
    a2I,PySem.W.fnOf "_law_plan" "_law_plan" (aJ gK) (aG gK) (aB gK) .none ae6 ae7 ae8 ae5 a6H ae9,
    a2J,PySem.W.fnOf "_law_spot" "_law_spot" (aJ gM) (aG gM) (aB gM) .none aeB aeC aeD aeA a6I aeE,
    wK,PySem.W.fnOf "_law_raised" "_law_raised" (aJ dD) (aG dD) (aB dD) .none a9R a9S a9T a9Q a0S a9U,
    a2K,PySem.W.fnOf "_law_told" "_law_told" (aJ gO) (aG gO) (aB gO) .none aeG aeH aeI aeF a6J aeJ,
    a6K,PySem.W.fnOf "_law_put" "_law_put" (aJ jF) (aG jF) (aB jF) .none ahC ahD ahE ahB a9V ahF,
    zJ,PySem.W.fnOf "_law_taken" "_law_taken" (aJ eG) (aG eG) (aB eG) .none abJ abK abL abI a3A abM,
    fa,PySem.W.fnOf "law" "law" (aJ a8A) (aG a8A) (aB a8A) .none aE8 aE9 aEA aE7 awE aEB,
    aL,
    cA,
    cY,
    cZ,
    bA,
    cB,
    aR,
    cC⟩:={
    apH:=d8 (st:=tV) aqI a5O adE,
    ay1:=cD (ps:=["k"]) (fun us hl=>match us,hl with | [_],_=>rfl),
    ay2:=PySem.W.mg_of XK GG a5L,
    vC:=d8 (st:=jB) ac9 rY a0K,
    a07:=cD (ps:=["thing", "least", "most"]) (fun us hl=>match us,hl with | [_,_,_],_=>rfl),
    a08:=PySem.W.mg_of XK GG rP,
    af9:=d8 (st:=m9) afS v8 a4H,
    an8:=cD (ps:=["thing", "aisles", "first", "last"]) (fun us hl=>match us,hl with | [_,_,_,_],_=>rfl),
    an9:=PySem.W.mg_of XK GG uW,
    a8H:=d8 (st:=gH) a9W pD xF,
    agI:=cD (ps:=["thing"]) (fun us hl=>match us,hl with | [_],_=>rfl),
    agJ:=PySem.W.mg_of XK GG oZ,
    afA:=d8 (st:=mD) afT v9 a4I,
    anA:=cD (ps:=["thing"]) (fun us hl=>match us,hl with | [_],_=>rfl),
    anB:=PySem.W.mg_of XK GG uX,
    a1M:=d8 (st:=gJ) a9X pF xG,
    a8I:=cD (ps:=["plan"]) (fun us hl=>match us,hl with | [_],_=>rfl),
    a8J:=PySem.W.mg_of XK GG p7,
    ajP:=d8 (st:=oX) akY a02 a92,
    asU:=cD (ps:=["plan", "thing"]) (fun us hl=>match us,hl with | [_,_],_=>rfl),
    asV:=PySem.W.mg_of XK GG zW,
    vD:=d8 (st:=jC) acA rZ a0L,
    a09:=cD (ps:=["thing", "lots"]) (fun us hl=>match us,hl with | [_,_],_=>rfl),
    a0A:=PySem.W.mg_of XK GG rQ,
    sJ:=d8 (st:=jD) acB sE a0M,
    vG:=cD (ps:=["plan", "thing"]) (fun us hl=>match us,hl with | [_,_],_=>rfl),
    vH:=PySem.W.mg_of XK GG rR,
    qY:=d8 (st:=d9) a3B lU rF,
    wG:=cD (ps:=["thing"]) (fun us hl=>match us,hl with | [_],_=>rfl),
    wH:=PySem.W.mg_of XK GG lO,
    ad6:=d8 (st:=oY) akZ a03 a93,
    ajQ:=cD (ps:=["stacks", "spot", "lot", "more"]) (fun us hl=>match us,hl with | [_,_,_,_],_=>rfl),
    ajR:=PySem.W.mg_of XK GG zX,
    ac0:=d8 (st:=jE) acC sG a0O,
    ajS:=cD (ps:=["stacks"]) (fun us hl=>match us,hl with | [_],_=>rfl),
    ajT:=PySem.W.mg_of XK GG rT,
    a0B:=d8 (st:=bK) sU dG fZ,
    a0C:=aHP (ps:=["self", "plan", "room"]) gA (fun us hl=>match us,hl with | [_,_,_],_=>⟨_,rfl,rfl,rfl⟩),ac1:=⟨cF,nT,fZ⟩,a0D:=⟨yR,aHQ (ps:=["self", "plan", "room"]) gA (fun us hl=>match us,hl with | [_,_],_=>⟨_,rfl,rfl,rfl⟩)⟩,
    a4B:=d8 (st:=bU) vU fQ j8,
    vI:=cD (ps:=["self", "spot"]) (fun us hl=>match us,hl with | [_,_],_=>rfl),vJ:=⟨fM,vR,j8⟩,
    yI:=d8 (st:=bC) qT cX fB,
    yJ:=cD (ps:=["self", "spot", "amount"]) (fun us hl=>match us,hl with | [_,_,_],_=>rfl),yK:=⟨cW,qR,fB⟩,
    abA:=d8 (st:=dB) a3D lV oG,
    abB:=cD (ps:=["self", "lot", "spot", "amount"]) (fun us hl=>match us,hl with | [_,_,_,_],_=>rfl),abC:=⟨lQ,a3C,oG⟩,
    a4C:=d8 (st:=bV) vW fU j9,
    vK:=cD (ps:=["self", "lot", "spot"]) (fun us hl=>match us,hl with | [_,_,_],_=>rfl),vL:=⟨fO,vV,j9⟩,
    wX:=d8 (st:=aZ) qD cR dR,
    wY:=cD (ps:=["self", "lot", "spot", "amount"]) (fun us hl=>match us,hl with | [_,_,_,_],_=>rfl),wZ:=⟨cQ,qC,dR⟩,
    a8K:=d8 (st:=cN) a0U jK mU,
    a8L:=cD (ps:=["self", "lot", "spot", "amount"]) (fun us hl=>match us,hl with | [_,_,_,_],_=>rfl),a8M:=⟨jG,a0T,mU⟩,
    a78:=d8 (st:=cG) yD iJ kJ,
    ahM:=cD (ps:=["self", "lot", "one", "other", "amount"]) (fun us hl=>match us,hl with | [_,_,_,_,_],_=>rfl),ahN:=⟨iH,yC,kJ⟩,
    a8N:=d8 (st:=cO) a0W jL mV,
    a8O:=cD (ps:=["self", "spot"]) (fun us hl=>match us,hl with | [_,_],_=>rfl),a8P:=⟨jH,a0V,mV⟩,
    a4D:=d8 (st:=bW) vY fV jA,
    a4E:=cD (ps:=["self", "lot"]) (fun us hl=>match us,hl with | [_,_],_=>rfl),a4F:=⟨fP,vX,jA⟩,
    a79:=d8 (st:=cH) yF iK kW,
    a7A:=cD (ps:=["self"]) (fun us hl=>match us,hl with | [_],_=>rfl),a7B:=⟨iI,yE,kW⟩,
    u6:=d8 (st:=cP) a0X jM pW,
    a0E:=cD (ps:=["_law_script", "_law_k"]) (fun us hl=>match us,hl with | [_,_],_=>rfl),
    a0F:=PySem.W.mg_of XK GG jJ,
    a66:=d8 (st:=eF) a6L nM u9,
    ad7:=cD (ps:=["_law_found"]) (fun us hl=>match us,hl with | [_],_=>rfl),
    ad8:=PySem.W.mg_of XK GG nD,
    a8Q:=d8 (st:=gK) a9Y pG xJ,
    agK:=cD (ps:=["_law_script", "_law_k"]) (fun us hl=>match us,hl with | [_,_],_=>rfl),
    agL:=PySem.W.mg_of XK GG pA,
    a8R:=d8 (st:=gM) a9Z pH xK,
    agM:=cD (ps:=["_law_plan_here", "_law_cell"]) (fun us hl=>match us,hl with | [_,_],_=>rfl),
    agN:=PySem.W.mg_of XK GG pB,
    wI:=d8 (st:=dD) a3E lW rG,
    a2X:=cD (ps:=["_law_e"]) (fun us hl=>match us,hl with | [_],_=>rfl),
    a2Y:=PySem.W.mg_of XK GG lR,
    a8S:=d8 (st:=gO) aa0 pI xM,
    agO:=cD (ps:=["_law_shelves", "_law_lot", "_law_spot_here", "_law_due"]) (fun us hl=>match us,hl with | [_,_,_,_],_=>rfl),
    agP:=PySem.W.mg_of XK GG pC,
    ac2:=d8 (st:=jF) acD sI a0P,
    ajU:=cD (ps:=["_law_shelves", "_law_lot", "_law_spot_here", "_law_amount"]) (fun us hl=>match us,hl with | [_,_,_,_],_=>rfl),
    ajV:=PySem.W.mg_of XK GG rW,
    a67:=d8 (st:=eG) a6M nO uD,
    ad9:=cD (ps:=["_law_shelves", "_law_lot", "_law_spot_here", "_law_amount"]) (fun us hl=>match us,hl with | [_,_,_,_],_=>rfl),
    adA:=PySem.W.mg_of XK GG nF,
    aL4:=d8 (st:=a8A) aEC ajO atU,
    aVH:=cD (ps:=["_law_script"]) (fun us hl=>match us,hl with | [_],_=>rfl),
    aVI:=PySem.W.mg_of XK GG agE,
    aX:=⟨acF,acG,acH,acI⟩,ac3:=⟨acJ,cF,nT,acK⟩,ac4:=PySem.W.mg_of XK GG acE,
    eV:=uI,
    xW:=yG,
    cJ:=uJ,
    a68:=PySem.W.mg_of XK GG a6N,
    nP:=nP,
    j4:=j4,
    lX:=lX,
    j5:=j5,
    apI:=⟨a3F,a3G,a3H,
    j5,a3I,
    j4⟩,
    qZ:=qZ,
    ajW:=PySem.W.mg_of XK GG al0,
    a0G:=a0G,
    sY:=sY,
    vM:=vM,
    sZ:=sZ,
    aDM:=⟨afU,afV,afW,
    sZ,afX,
    sY⟩,
    a4G:=a4G,
    apJ:=PySem.W.mg_of XK GG aqJ,
    a69:=a69,
    xA:=xA,
    a0H:=a0H,
    xB:=xB,
    aJJ:=⟨al1,al2,al3,
    xB,al4,
    xA⟩,
    a8T:=a8T,
    apK:=PySem.W.mg_of XK GG aqK,
    a6A:=a6A,
    xC:=xC,
    a0I:=a0I,
    xD:=xD,
    aJK:=⟨al5,al6,al7,
    xD,al8,
    xC⟩,
    a8U:=a8U,
    ac5:=PySem.W.mg_of XK GG acL,
    sO:=sO,
    mZ:=mZ,
    pK:=pK,
    n6:=n6,
    avO:=⟨aa1,aa2,aa3,
    n6,aa4,
    mZ⟩,
    xE:=xE,
    ajX:=PySem.W.mg_of XK GG al9,
    a0J:=a0J,
    tD:=tD,
    vN:=vN,
    tE:=tE,
    asW:=⟨afY,afZ,ag0,
    tE,ag1,
    tD⟩,
    zO:=zO,
    a8V:=PySem.W.mg_of XK GG aa5,
    pL:=pL,
    lD:=lD,
    nQ:=nQ,
    lE:=lE,
    agQ:=⟨a6O,a6P,a6Q,
    lE,a6R,
    lD⟩,
    qN:=qN,
    dM:=dM,
    dN:=dN,
    fH:=fH,
    jN:=jN,
    jO:=jO,
    iM:=iM,
    iQ:=iQ,
    eX:=eX,
    iR:=iR,
    iT:=iT,
    lF:=lF,
    pN:=pN,
    pO:=pO,
    nY:=nY,
    nZ:=nZ,
    jP:=jP,
    jQ:=jQ,
    jR:=jR,
    mH:=mH,
    rA:=rA,
    rB:=rB,
    pP:=pP,
    pQ:=pQ,
    lG:=lG,
    jT:=jT,
    jU:=jU,
    mJ:=mJ,
    rC:=rC,
    rD:=rD,
    pR:=pR,
    pU:=pU,
    lH:=lH,
    fJ:=fJ,
    fK:=fK,
    iU:=iU,
    mK:=mK,
    mL:=mL,
    lJ:=lJ,
    lK:=lK,
    gR:=gR,
    iV:=iV,
    f9:=f9,
    iB:=iB,
    mQ:=mQ,
    mR:=mR,
    jY:=jY,
    jZ:=jZ,
    fW:=fW,
    eY:=eY,
    cT:=cT,
    dO:=dO,
    iC:=iC,
    iD:=iD,
    fX:=fX,
    fY:=fY,
    d7:=d7,
    oA:=⟨abN,PySem.W.mg_of XK GG oA⟩,
    oE:=⟨abO,PySem.W.mg_of XK GG oE⟩,
    oF:=⟨abP,PySem.W.mg_of XK GG oF⟩,
    vO:=⟨akX,PySem.W.mg_of XK GG vO⟩,
    lM:=⟨ahG,PySem.W.mg_of XK GG lM⟩,
    adB:=PySem.W.mg_none_of XK GG a6S,
    avP:=PySem.W.mg_none_of XK GG awF,
    aDN:=PySem.W.mg_none_of XK GG awG,
    ay3:=PySem.W.mg_none_of XK GG aED,
    nR:=PySem.W.mg_none_of XK GG a6T,
    anC:=PySem.W.mg_none_of XK GG aEE,
    aDO:=PySem.W.mg_none_of XK GG awH,
    aL5:=PySem.W.mg_none_of XK GG aEF,
    a8W:=PySem.W.mg_none_of XK GG alA,
    aL6:=PySem.W.mg_none_of XK GG aEG,
    aiE:=PySem.W.mg_none_of XK GG aqL }
  exact ⟨_,fun s v => .of_eq rfl,fun base _ _=>(aQS T).imp (aJS T)⟩
theorem walk {l:PySem.W.OpenLaw} {q:Program} {loose:List Str} {XP:(Str→Option Value)→Heap→Prop} {YP:World→Heap→Prop} {d:DefRec} {K:Params→PySem.W.Frag} (hn:l.most=some 63) (hdf:d.params.defaults=[])
    (hY:∀ (w:World) (h:Heap),YP w h→(K w.params).In h)
    (F:∀ (w:World) (mg:Str→Option Value) (fa:Addr) (h:Heap),(K w.params).In h→h.Ns mainGlobals mg→mg d.name=some (.ref fa) →
      ∃ fd:FuncData,(∀ (s:Shared) (u:Value),BindsTo s fd ⟨[u],[]⟩ [("_law_script",u)])∧∀ base:Heap,(K w.params).In base→base.Ns mainGlobals mg→dH false l.prog w (K w.params) mg base (tQ l.prog w) 10 fa fd ["_law_script"] (ay6 (K w.params))) :
    PySem.W.WalkO q loose XP YP l.row.toRowW d [] (fun f vs=>PySem.call f vs) :=
  L2.aFO (n:=63) (k:=10) (x := "_law_script") (CX:=fun w=>tQ l.prog w) (sp:=fun w=>ay6 (K w.params)) hn (by decide) hdf ⟨fun _=>rfl,by decide,by decide⟩ hY F (fun _ _ a ns hl _ hS=>⟨a,ns,rfl,hS,hl,fun _=>rfl⟩) fun _ _ _ _ _ ⟨_,_,_,_,_,_,_,_,_,_,_,_,z⟩=>z
end Law
open PySem PySem.W PyProof.Rows
theorem PySem.Challenge.cw_depot_k21_put_and_taken_holds : PySem.Challenge.rw_depot_k21_put_and_taken.Holds := by
  w_on;o_law;o_head (PySem.W.kHook Law.frK.heap_39 Law.frA Law.frE)
  case hl=>exact Law.frL
  case hw=>w_witness2
  k_fill
  refine Law.walk (l:=PySem.Challenge.rw_depot_k21_put_and_taken) rfl rfl (fun w h Y=>PySem.W.kIn_of Y) ?F
  case F =>
    intro w mg fa h KX G hmg
    refine' Law.all_mk KX G hmg ?a5L ?aqI ?a5O ?adE ?rP ?ac9 ?rY ?a0K ?uW ?afS ?v8 ?a4H ?oZ ?a9W ?pD ?xF ?uX ?afT ?v9 ?a4I ?p7 ?a9X ?pF ?xG ?zW ?akY ?a02 ?a92 ?rQ ?acA ?rZ ?a0L ?rR ?acB ?sE ?a0M ?lO ?a3B ?lU ?rF ?zX ?akZ ?a03 ?a93 ?rT ?acC ?sG ?a0O ?cF ?nT ?sU ?dG ?fZ ?gA ?fM ?vR ?vU ?fQ ?j8 ?cW ?qR ?qT ?cX ?fB ?lQ ?a3C ?a3D ?lV ?oG ?fO ?vV ?vW ?fU ?j9 ?cQ ?qC ?qD ?cR ?dR ?jG ?a0T ?a0U ?jK ?mU ?iH ?yC ?yD ?iJ ?kJ ?jH ?a0V ?a0W ?jL ?mV ?fP ?vX ?vY ?fV ?jA ?iI ?yE ?yF ?iK ?kW ?jJ ?a0X ?jM ?pW ?nD ?a6L ?nM ?u9 ?pA ?a9Y ?pG ?xJ ?pB ?a9Z ?pH ?xK ?lR ?a3E ?lW ?rG ?pC ?aa0 ?pI ?xM ?rW ?acD ?sI ?a0P ?nF ?a6M ?nO ?uD ?agE ?aEC ?ajO ?atU ?acE ?acF ?acG ?acH ?acI ?acJ ?acK ?uI ?yG ?uJ ?a6N ?nP ?j4 ?lX ?j5 ?a3F ?a3G ?a3H ?a3I ?qZ ?al0 ?a0G ?sY ?vM ?sZ ?afU ?afV ?afW ?afX ?a4G ?aqJ ?a69 ?xA ?a0H ?xB ?al1 ?al2 ?al3 ?al4 ?a8T ?aqK ?a6A ?xC ?a0I ?xD ?al5 ?al6 ?al7 ?al8 ?a8U ?acL ?sO ?mZ ?pK ?n6 ?aa1 ?aa2 ?aa3 ?aa4 ?xE ?al9 ?a0J ?tD ?vN ?tE ?afY ?afZ ?ag0 ?ag1 ?zO ?aa5 ?pL ?lD ?nQ ?lE ?a6O ?a6P ?a6Q ?a6R ?qN ?dM ?dN ?fH ?jN ?jO ?iM ?iQ ?eX ?iR ?iT ?lF ?pN ?pO ?nY ?nZ ?jP ?jQ ?jR ?mH ?rA ?rB ?pP ?pQ ?lG ?jT ?jU ?mJ ?rC ?rD ?pR ?pU ?lH ?fJ ?fK ?iU ?mK ?mL ?lJ ?lK ?gR ?iV ?f9 ?iB ?mQ ?mR ?jY ?jZ ?fW ?eY ?cT ?dO ?iC ?iD ?fX ?fY ?d7 ?oA ?oE ?oF ?vO ?lM ?a6S ?awF ?awG ?aED ?a6T ?aEE ?awH ?aEF ?alA ?aEG ?aqL
    (case acE=>k_is)
    (case a5L=>k_is)
    (case aqI=>k_is)
    (case a5O=>k_is)
    (case adE=>k_is)
    (case rP=>k_is)
    (case ac9=>k_is)
    (case rY=>k_is)
    (case a0K=>k_is)
    (case uW=>k_is)
    (case afS=>k_is)
    (case v8=>k_is)
    (case a4H=>k_is)
    (case oZ=>k_is)
    (case a9W=>k_is)
    (case pD=>k_is)
    (case xF=>k_is)
    (case uX=>k_is)
    (case afT=>k_is)
    (case v9=>k_is)
    (case a4I=>k_is)
    (case p7=>k_is)
    (case a9X=>k_is)
    (case pF=>k_is)
    (case xG=>k_is)
    (case zW=>k_is)
    (case akY=>k_is)
    (case a02=>k_is)
    (case a92=>k_is)
    (case rQ=>k_is)
    (case acA=>k_is)
    (case rZ=>k_is)
    (case a0L=>k_is)
    (case rR=>k_is)
    (case acB=>k_is)
    (case sE=>k_is)
    (case a0M=>k_is)
    (case lO=>k_is)
    (case a3B=>k_is)
    (case lU=>k_is)
    (case rF=>k_is)
    (case zX=>k_is)
    (case akZ=>k_is)
    (case a03=>k_is)
    (case a93=>k_is)
    (case rT=>k_is)
    (case acC=>k_is)
    (case sG=>k_is)
    (case a0O=>k_is)
    (case cF=>k_is)
    (case nT=>k_is)
    (case sU=>k_is)
    (case dG=>k_is)
    (case fZ=>k_is)
    (case gA=>k_is)
    (case fM=>k_is)
    (case vR=>k_is)
    (case vU=>k_is)
    (case fQ=>k_is)
    (case j8=>k_is)
    (case cW=>k_is)
    (case qR=>k_is)
    (case qT=>k_is)
    (case cX=>k_is)
    (case fB=>k_is)
    (case lQ=>k_is)
    (case a3C=>k_is)
    (case a3D=>k_is)
    (case lV=>k_is)
    (case oG=>k_is)
    (case fO=>k_is)
    (case vV=>k_is)
    (case vW=>k_is)
    (case fU=>k_is)
    (case j9=>k_is)
    (case cQ=>k_is)
    (case qC=>k_is)
    (case qD=>k_is)
    (case cR=>k_is)
    (case dR=>k_is)
    (case jG=>k_is)
    (case a0T=>k_is)
    (case a0U=>k_is)
    (case jK=>k_is)
    (case mU=>k_is)
    (case iH=>k_is)
    (case yC=>k_is)
    (case yD=>k_is)
    (case iJ=>k_is)
    (case kJ=>k_is)
    (case jH=>k_is)
    (case a0V=>k_is)
    (case a0W=>k_is)
    (case jL=>k_is)
    (case mV=>k_is)
    (case fP=>k_is)
    (case vX=>k_is)
    (case vY=>k_is)
    (case fV=>k_is)
    (case jA=>k_is)
    (case iI=>k_is)
    (case yE=>k_is)
    (case yF=>k_is)
    (case iK=>k_is)
    (case kW=>k_is)
    (case jJ=>k_is)
    (case a0X=>k_is)
    (case jM=>k_is)
    (case pW=>k_is)
    (case nD=>k_is)
    (case a6L=>k_is)
    (case nM=>k_is)
    (case u9=>k_is)
    (case pA=>k_is)
    (case a9Y=>k_is)
    (case pG=>k_is)
    (case xJ=>k_is)
    (case pB=>k_is)
    (case a9Z=>k_is)
    (case pH=>k_is)
    (case xK=>k_is)
    (case lR=>k_is)
    (case a3E=>k_is)
    (case lW=>k_is)
    (case rG=>k_is)
    (case pC=>k_is)
    (case aa0=>k_is)
    (case pI=>k_is)
    (case xM=>k_is)
    (case rW=>k_is)
    (case acD=>k_is)
    (case sI=>k_is)
    (case a0P=>k_is)
    (case nF=>k_is)
    (case a6M=>k_is)
    (case nO=>k_is)
    (case uD=>k_is)
    (case agE=>k_is)
    (case aEC=>k_is)
    (case ajO=>k_is)
    (case atU=>k_is)
    (case acF=>k_is)
    (case acG=>k_is)
    (case acH=>k_is)
    (case acI=>k_is)
    (case acJ=>k_is)
    (case acK=>k_is)
    (case uI=>k_is)
    (case yG=>k_is)
    (case uJ=>k_is)
    (case a6N=>k_is)
    (case nP=>k_exc)
    (case j4=>kernel_rfl)
    (case lX=>k_is)
    (case j5=>k_is)
    (case a3F=>k_is)
    (case a3G=>k_is)
    (case a3H=>k_is)
    (case a3I=>k_is)
    (case qZ=>kit_is)
    (case al0=>k_is)
    (case a0G=>k_exc)
    (case sY=>kernel_rfl)
    (case vM=>k_is)
    (case sZ=>k_is)
    (case afU=>k_is)
    (case afV=>k_is)
    (case afW=>k_is)
    (case afX=>k_is)
    (case a4G=>kit_is)
    (case aqJ=>k_is)
    (case a69=>k_exc)
    (case xA=>kernel_rfl)
    (case a0H=>k_is)
    (case xB=>k_is)
    (case al1=>k_is)
    (case al2=>k_is)
    (case al3=>k_is)
    (case al4=>k_is)
    (case a8T=>kit_is)
    (case aqK=>k_is)
    (case a6A=>k_exc)
    (case xC=>kernel_rfl)
    (case a0I=>k_is)
    (case xD=>k_is)
    (case al5=>k_is)
    (case al6=>k_is)
    (case al7=>k_is)
    (case al8=>k_is)
    (case a8U=>kit_is)
    (case acL=>k_is)
    (case sO=>k_exc)
    (case mZ=>kernel_rfl)
    (case pK=>k_is)
    (case n6=>k_is)
    (case aa1=>k_is)
    (case aa2=>k_is)
    (case aa3=>k_is)
    (case aa4=>k_is)
    (case xE=>kit_is)
    (case al9=>k_is)
    (case a0J=>k_exc)
    (case tD=>kernel_rfl)
    (case vN=>k_is)
    (case tE=>k_is)
    (case afY=>k_is)
    (case afZ=>k_is)
    (case ag0=>k_is)
    (case ag1=>k_is)
    (case zO=>kit_is)
    (case aa5=>k_is)
    (case pL=>k_exc)
    (case lD=>kernel_rfl)
    (case nQ=>k_is)
    (case lE=>k_is)
    (case a6O=>k_is)
    (case a6P=>k_is)
    (case a6Q=>k_is)
    (case a6R=>k_is)
    (case qN=>kit_is)
    (case dM=>kit_is)
    (case dN=>k_is)
    (case fH=>kit_is)
    (case jN=>kit_is)
    (case jO=>kit_is)
    (case iM=>kit_is)
    (case iQ=>kit_is)
    (case eX=>kit_is)
    (case iR=>kit_is)
    (case iT=>k_is)
    (case lF=>kit_is)
    (case pN=>kit_is)
    (case pO=>kit_is)
    (case nY=>kit_is)
    (case nZ=>kit_is)
    (case jP=>kit_is)
    (case jQ=>kit_is)
    (case jR=>k_is)
    (case mH=>kit_is)
    (case rA=>kit_is)
    (case rB=>kit_is)
    (case pP=>kit_is)
    (case pQ=>kit_is)
    (case lG=>kit_is)
    (case jT=>kit_is)
    (case jU=>k_is)
    (case mJ=>kit_is)
    (case rC=>kit_is)
    (case rD=>kit_is)
    (case pR=>kit_is)
    (case pU=>kit_is)
    (case lH=>kit_is)
    (case fJ=>kit_is)
    (case fK=>k_is)
    (case iU=>kit_is)
    (case mK=>kit_is)
    (case mL=>kit_is)
    (case lJ=>kit_is)
    (case lK=>kit_is)
    (case gR=>kit_is)
    (case iV=>kit_is)
    (case f9=>k_is)
    (case iB=>kit_is)
    (case mQ=>kit_is)
    (case mR=>kit_is)
    (case jY=>kit_is)
    (case jZ=>kit_is)
    (case fW=>kit_is)
    (case eY=>kit_is)
    (case cT=>k_is)
    (case dO=>kit_is)
    (case iC=>kit_is)
    (case iD=>kit_is)
    (case fX=>kit_is)
    (case fY=>kit_is)
    (case d7=>kit_is)
    (case oA=>k_is)
    (case oE=>k_is)
    (case oF=>k_is)
    (case vO=>k_is)
    (case lM=>k_is)
    (case a6S=>k_is)
    (case awF=>k_is)
    (case awG=>k_is)
    (case aED=>k_is)
    (case a6T=>k_is)
    (case aEE=>k_is)
    (case awH=>k_is)
    (case aEF=>k_is)
    (case alA=>k_is)
    (case aEG=>k_is)
    (case aqL=>k_is)
