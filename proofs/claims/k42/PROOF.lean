import PyProof.Rows.All
import Wide.All
import OpenK.KLine
import OpenK.KOwn
import Wide.FinOn
import Lean
import PyProof.EqAt
import PyProof.EqKinds
import PyProof.TupleCall
import KE.KMinKey
import KE.KSortTup
import KE.KRevSl
import KE.KStateDown
import PyProof.Rows.Range3
import KE.KDictOf
import PyProof.AttrMissSeq
import KE.KRevIter
import KE.KItemsList
import KE.KPairComp
import KE.KEqDict
import KE.KDictSum
import KE.RegKIsAll
import KE.KNest
import KE.KClos
import PyProof.Draws
import PyProof.EnumMake
import KE.KLam
import PyProof.AutoListH
import KE.KDictLaws
import PyProof.StrLawsTight
import PySem.Challenge.RW_depot_k42_pieces_in_turn
set_option Elab.async false
set_option linter.all false
set_option maxRecDepth 100000
set_option maxHeartbeats 4000000
namespace Law
open PySem PySem.W PyProof.Rows
def frT (n:Nat):Stmt:=PySem.Challenge.pw_depot_k42_pieces_in_turn.main.body.getD n (.Pass ⟨0,0,0,0⟩)
def frQ:Program:={ PySem.Challenge.pw_depot_k42_pieces_in_turn with main:={ PySem.Challenge.pw_depot_k42_pieces_in_turn.main with body:=[frT 1,frT 2,frT 4,frT 5,frT 6,frT 7,frT 8,frT 9,frT 11,frT 12,frT 13,frT 14,frT 15,frT 16,frT 17] } }
theorem frB {p q:Program} {loose:List Str} {Xt:Shared→Bool} {α:Type} {Yf:Shared→α} {Ya:World→α} {N:Nat} {g0:Bool}
    (e:opening p=plainProg p.main.scope.names) (hN:Nat.ble 600 N=true) (f:∀ s,fenceModules? p s=some s)
    (h:∀ (w:World) (os:OsState),(topFrom treeTable p w N ⟨boot_heap w.params,#[],boot_drawn,boot_toks,os⟩).map (fun s=>(openSeen q loose (importedModules p.main.body) Xt g0 s,Yf s))=some (openGood q loose,Ya w)) :
    LeftO p q loose Xt Yf Ya N g0:=fun w=>by
  obtain ⟨⟨h1,gs,d,k,os⟩,e1,e'⟩:=Option.map_eq_some_iff.mp (boot_open e hN f w)
  obtain ⟨rfl,rfl,rfl,rfl⟩:h1=boot_heap w.params∧gs=#[]∧d=boot_drawn∧k=boot_toks:=by simpa using e'
  unfold openEnds
  rw [e1]
  exact h w os
abbrev frX:Shared→Bool:=fun s=>xlAt frQ [] s&&recOk (RowW.records (OpenRow.toRowW (OpenLaw.row PySem.Challenge.rw_depot_k42_pieces_in_turn))) s
end Law
local macro_rules
  | `(tactic| o_head $H)=>`(tactic| refine PySem.W.holds_open (q:=Law.frQ) (loose:=[]) (Xt:=Law.frX) (XP:=PySem.W.XL Law.frQ []) (Yf:=PySem.W.Hook.obs $H) (Ya:=PySem.W.Hook.val $H)
      (YP:=PySem.W.Hook.says $H) (N:=1772) ?hl (PySem.W.Hook.of $H) (PySem.W.Hook.keeps $H) (fun s e=>PySem.W.xl_of s (Bool.and_eq_true_iff.mp e).1) PySem.W.XL.keeps (by rfl) (by rfl) (by rfl)
      (fun s e=>PySem.W.recFacts_of (Bool.and_eq_true_iff.mp e).2) (by rfl) (by first | assumption | decide +kernel) (by decide +kernel) ⟨rfl,rfl,rfl,rfl,rfl,by decide +kernel⟩ ?hw ?hc)
open PySem PySem.W in
theorem Law.frK (h0:∀ {α:Type} (Yf:Shared→α) (Ya:World→α),LeftO (OpenLaw.row PySem.Challenge.rw_depot_k42_pieces_in_turn).prog Law.frQ [] Law.frX Yf Ya 1772)
    (h1:∀ YP d,WalkO Law.frQ [] (XL Law.frQ []) YP (OpenRow.toRowW (OpenLaw.row PySem.Challenge.rw_depot_k42_pieces_in_turn)) d [] (fun f vs=>PySem.call f vs)):OpenLaw.Holds PySem.Challenge.rw_depot_k42_pieces_in_turn:=by
  w_on;o_law;k_head
  case hl=>exact h0 _ _
  case hw=>w_witness2
  exact h1 _ _
abbrev Law.frA:List Nat:=[2,3,6,15,22,23,24,25,28,35,36,37,40,41,43,44,46,47,48,50,51,53,54,55,58,59,60,63,64,65,67,68,70,71,72,74,75,77,78,79,81,82,84,85,86,88,89,91,92,93,95,96,98,99,100,102,103,105,106,107,109,110,112,113,114,116,117,119,120]
theorem Law.frE:∀ P,Law.frA=(Law.frK.heap_39 P).map (·.1):=fun _=>by kernel_rfl
open PySem PySem.W in
theorem Law.frL:LeftO (OpenLaw.row PySem.Challenge.rw_depot_k42_pieces_in_turn).prog Law.frQ [] Law.frX (Hook.obs (kHook Law.frK.heap_39 Law.frA Law.frE)) (Hook.val (kHook Law.frK.heap_39 Law.frA Law.frE)) 1772 :=
  Law.frB (by kernel_rfl) (by kernel_rfl) (fun s=>by kernel_rfl) (fun w os=>by kernel_rfl)
namespace L2
open PySem PySem.Spec PyProof.Rows
structure Tr (B:Heap) (x:Addr) (C fl:Value) (h:Heap):Prop where
  ex:∃ (o:Obj) (vs:Array Value) (T:Addr) (oT:Obj) (ts:Array Value),h.get? x=some o∧o.cls=C∧o.data = .fields vs∧vs[1]?=some (.ref T)∧vs[2]?=some .none∧B.get? T=none∧T≠x∧h.get? T=some oT∧oT.data = .fields ts∧ts[3]?=some fl
structure a7G (B:Heap) (l:List Env) (x:Addr) (C fl:Value) (h:Heap):Prop where
  stays:B.StaysIn h
  new:B.get? x=none
  ax8:h.FunFrames B l
  tr:Tr B x C fl h
abbrev Fly (B:Heap) (l:List Env) (x:Addr) (C:Value) (h:Heap):Prop:=a7G B l x C .none h
section
variable {M:Model} {A:Around} {E:Value→Shared→Prop} {s:Shared} {B:Heap} {l:List Env} {env:Env} {outer:List Env} {L x:Addr} {C fl:Value}
theorem iY {h:Heap} {a:Addr} {o:Obj} {vs:Array Value} {i:Nat} {v:Value} (e:h.get? a=some o) (d:o.data = .fields vs) :
    (h.update a (Obj.mapFields (·.setIfInBounds i v))).get? a=some (Obj.mapFields (·.setIfInBounds i v) o)∧(Obj.mapFields (·.setIfInBounds i v) o).data = .fields (vs.setIfInBounds i v)∧(Obj.mapFields (·.setIfInBounds i v) o).cls=o.cls ∧
    (∀ b,b≠a→(h.update a (Obj.mapFields (·.setIfInBounds i v))).get? b=h.get? b):=by
  have d':=Obj.data_mapFields d (·.setIfInBounds i v)
  exact ⟨Heap.get?_update_self _ e (Obj.isFreed_of_fields d'),d',Obj.cls_mapFields _ _,fun b hb=>Heap.get?_update_other _ _ (Ne.symm hb)⟩
theorem rW {h:Heap} {a b:Addr} {o u:Obj} {vs:Array Value} (e:h.get? a=some o) (d:o.data = .fields vs) (e2:h.get? b=some u) (n:∀ ws,u.data ≠ .fields ws):b≠a:=fun q=>by
  subst q
  rw [e] at e2
  cases e2
  exact n vs d
theorem a9A {Q:Unit→Shared→Prop} (f:a7G B l x C fl s.heap) (h:∀ h',Fly B l x C h'→s.heap.UpToSlots h'→Q () { s with heap:=h' }):wpAny M A (setFlight (.ref x) none) Q E s:=by
  obtain ⟨st,nw,fu,⟨o,vs,T,oT,ts,e1,e2,e3,e4,e5,e6,e7,e8,e9,e10⟩⟩:=f
  unfold setFlight
  refine wpAny_bind (wpAny_field e1 e3 e4 ?_)
  rw [if_pos (by simp)]
  have l3:3 < ts.size:=(Array.getElem?_eq_some_iff.mp e10).1
  obtain ⟨u1,u2,u3,u4⟩:=iY (i:=3) (v:=(none:Option Addr).elim Value.none fun f=>rawInt f) e8 e9
  refine wpAny_setField e8 e9 l3 (h _ ⟨fun b u q=>?_,nw,fu.of_keeps fun b u q n=>⟨u,(u4 b (rW e8 e9 q n)).trans q,rfl⟩,⟨o,vs,T,_,_,(u4 x (Ne.symm e7)).trans e1,e2,e3,e4,e5,e6,e7,u1,u2,?_⟩⟩ fun b u q n=>⟨u.slots,(u4 b (rW e8 e9 q n)).trans q⟩)
  · exact (u4 b fun z=>by subst z;rw [e6] at q;cases q).trans (st b u q)
  · simp [l3]
theorem a5I {Q:Unit→Shared→Prop} {head:Value} {hadNext:Bool} {o:Obj} {vs:Array Value} (hfr:A.frames=some (env :: outer)) (hf:env.frame=some L) (st:B.StaysIn s.heap) (nw:B.get? x=none) (fu:s.heap.FunFrames B (env :: outer)) (e1:s.heap.get? x=some o) (e2:o.cls=C) (e3:o.data = .fields vs) (e4:1 < vs.size) (e5:vs[2]?=some .none)
    (h:∀ h',a7G B (env :: outer) x C (rawInt L) h'→s.heap.UpToSlots h'→Q () { s with heap:=h' }) :
    wpAny M A (do let a ← frameOf env;let pl ← entryPlaceOf L hadNext;let b ← EntryCells.newEntry head a .none (rawInt L) .none pl;setField (.ref x) 1 b) Q E s:=by
  have nf:x ∉ (env :: outer).filterMap (·.frame):=fun m=>by
    obtain ⟨_,u,hu,hn⟩:=fu.mem m
    rw [e1] at hu;cases hu
    exact hn vs e3
  refine wpAny_bind (wpAny_frameOf_fun hfr fu hf fun k so=>wpAny_bind (wpAny_entryPlaceOf fun pl hpl=>?_))
  unfold EntryCells.newEntry newFields
  refine wpAny_bind (wpAny_newObj_type ?_ (hpl.sizeOk5 _ _ _ _ _))
  have k1:k.get? x=some o:=(so.2.1 x nf).trans e1
  have tne:k.objs.size≠x:=fun z=>absurd (Heap.lt_size k1) (by rw [z];exact Nat.lt_irrefl _)
  have kB:∀ b u,B.get? b=some u→k.get? b=some u:=fun b u q=>(so.2.1 b fun m=>by rw [(fu.mem m).1] at q;cases q).trans (st b u q)
  generalize hT:({ cls := .type "traceback",dict:=none,data := .fields ([head,.ref L,.none,rawInt L,.none]++(if pl.isEmpty then List.replicate 6 Value.none else pl)).toArray }:Obj)=oT
  have p1:(k.push oT).get? x=some o:=Heap.get?_push_of_some _ k1
  obtain ⟨u1,u2,u3,u4⟩:=iY (i:=1) (v := .ref k.objs.size) p1 e3
  have keep:∀ b u,b≠x→k.get? b=some u→((k.push oT).update x (Obj.mapFields (·.setIfInBounds 1 (.ref k.objs.size)))).get? b=some u:=fun b u n q=>(u4 b n).trans (Heap.get?_push_of_some _ q)
  have pT:(k.push oT).get? k.objs.size=some oT:=by
    subst hT
    exact Heap.get?_push_size k rfl
  refine wpAny_setField p1 e3 e4 (h _ ⟨fun b u q=>keep b u (fun z=>by subst z;rw [nw] at q;cases q) (kB b u q),nw,fu.of_keeps fun b u q n=>?_,⟨_,_,k.objs.size,oT,_,u1,u3.trans e2,u2,?_,?_,?_,tne,(u4 _ tne).trans pT,by rw [← hT],?_⟩⟩ fun b u q n=>?_)
  · obtain ⟨sl,z⟩:=so.2.2 b u q
    exact ⟨_,keep b _ (rW e1 e3 q n) z,rfl⟩
  · simp [e4]
  · rw [Array.getElem?_setIfInBounds_ne (by decide)];exact e5
  · cases q:B.get? k.objs.size with
    | none=>rfl
    | some u=>exact absurd (Heap.lt_size (kB _ u q)) (Nat.lt_irrefl _)
  · first | (simp;done) | (rcases hpl with rfl | ⟨_,_,_,_,_,_,_,rfl⟩ <;> simp)
  · obtain ⟨sl,z⟩:=so.2.2 b u q
    exact ⟨sl,keep b _ (rW e1 e3 q n) z⟩
theorem ah3 {Q:Unit→Shared→Prop} (hfr:A.frames=some (env :: outer)) (hf:env.frame=some L) (f:Fly B (env :: outer) x C s.heap) (h:∀ h',a7G B (env :: outer) x C (rawInt L) h'→s.heap.UpToSlots h'→Q () { s with heap:=h' }):wpAny M A (noteFrame (.ref x) env) Q E s:=by
  obtain ⟨st,nw,fu,⟨o,vs,T,oT,ts,e1,e2,e3,e4,e5,e6,e7,e8,e9,e10⟩⟩:=f
  unfold noteFrame
  simp only [hf]
  refine wpAny_bind (wpAny_field e1 e3 e4 ?_)
  rw [if_pos (by simp)]
  refine wpAny_bind (wpAny_field e8 e9 e10 ?_)
  rw [if_neg (by simp [rawInt])]
  have l3:3 < ts.size:=(Array.getElem?_eq_some_iff.mp e10).1
  obtain ⟨u1,u2,u3,u4⟩:=iY (i:=3) (v := .none) e8 e9
  refine wpAny_bind (wpAny_setField e8 e9 l3 ?_)
  refine a5I hfr hf (fun b u q=>(u4 b fun z=>by subst z;rw [e6] at q;cases q).trans (st b u q)) nw (fu.of_keeps fun b u q n=>⟨u,(u4 b (rW e8 e9 q n)).trans q,rfl⟩) ((u4 x (Ne.symm e7)).trans e1) e2 e3 (Array.getElem?_eq_some_iff.mp e4).1 e5 fun h' f' up=>h h' f' ?_
  exact fun b u q n=>up b u ((u4 b (rW e8 e9 q n)).trans q) n
theorem a7G.tail {h:Heap} (f:a7G B (env :: outer) x C fl h):a7G B outer x C fl h:=by
  obtain ⟨st,nw,⟨_,_,fu⟩,tr⟩:=f
  exact ⟨st,nw,fu,tr⟩
theorem acN {Q:Unit→Shared→Prop} (hfr:A.frames=some (env :: outer)) (hf:env.frame=some L) (f:Fly B (env :: outer) x C s.heap) (h:∀ h',Fly B outer x C h'→s.heap.UpToSlots h'→Q () { s with heap:=h' }):wpAny M A (leaving env (.ref x)) Q E s:=by
  unfold leaving
  refine wpAny_bind (ah3 hfr hf f fun h1 f1 up1=>a9A f1 fun h2 f2 up2=>?_)
  exact h h2 f2.tail (up1.trans up2)
theorem a7H {Q:Unit→Shared→Prop} {h0:Heap} {us:List Value} (hfr:A.frames=some (env :: outer)) (hf:env.frame=some L) (st:B.StaysIn h0) (fu:h0.FunFrames B (env :: outer)) (hm:Heap.MadeExcOf h0 s.heap x C us) (h:∀ h',Fly B outer x C h'→s.heap.UpToSlots h'→Q () { s with heap:=h' }):wpAny M A (leaving env (.ref x)) Q E s:=by
  obtain ⟨t,e1,_,_⟩:=hm.there
  unfold leaving noteFrame
  simp only [hf]
  refine wpAny_bind (wpAny_bind (wpAny_field (vs:=#[.ref t,.none,.none,.none,.bool false,.none]) (i:=1) e1 rfl rfl ?_))
  rw [if_neg (by simp)]
  have nw:B.get? x=none:=by
    cases q:B.get? x with
    | none=>rfl
    | some u=>have:=st x u q;rw [hm.new] at this;cases this
  refine a5I hfr hf (fun b u q=>hm.keeps b u (st b u q)) nw (fu.of_keeps fun b u q _=>⟨u,hm.keeps b u q,rfl⟩) e1 rfl rfl (by simp) rfl fun h1 f1 up1=>a9A f1 fun h2 f2 up2=>?_
  exact h h2 f2.tail (up1.trans up2)
end
def a0W (A:Around) (h:Heap):Prop:=A.handled=none∨∃ x o vs,A.handled=some (.ref x)∧h.get? x=some o∧o.data = .fields vs∧vs[2]?=some .none
theorem a0X:entryFor table "proto.unchain" = some Builtin.«proto.unchain» := entryFor_of_fast (by kernel_rfl)
section
variable {prog:Program} {w:World} {A:Around} {E:Value→Shared→Prop} {s:Shared}
theorem ab5 {α:Type} {Q:α→Shared→Prop} {a:Addr} {oa:Obj} {ws:Array Value} (hq:a0W A s.heap) (ea:s.heap.get? a=some oa) (da:oa.data = .fields ws) (la:2 < ws.size) (na:∀ x,A.handled=some (.ref x)→x≠a)
    (h:∀ h',(∀ b,b≠a→h'.get? b=s.heap.get? b)→(∃ o,h'.get? a=some o∧o.cls=oa.cls)→E (.ref a) { s with heap:=h' }):wpAny (model prog w) A (raiseNew (.ref a):Sem α) Q E s:=by
  unfold raiseNew
  refine wpAny_bind (wpAny_handled ?_)
  rcases hq with hn | ⟨x,o,vs,hx,ex,dx,vx⟩
  · rw [hn]
    exact wpAny_bind (wpAny_pure (wpAny_throw (h s.heap (fun _ _=>rfl) ⟨oa,ea,rfl⟩)))
  · rw [hx]
    have ne:=na x hx
    show wpAny (model prog w) _ (if ((Value.ref x) != (Value.ref a))=true then _ else _) _ _ _
    rw [if_pos (by simpa using ne)]
    refine wpAny_bind (wpAny_holding (wpAny_runValue (codeAny_builtin a0X ?_)))
    show wpAny (model prog w) _ (field (.ref x) 2 >>= _) _ _ _
    refine wpAny_bind (wpAny_field ex dx vx ?_)
    show wpAny (model prog w) _ (if ((Value.none:Value) == Value.none)=true then _ else _) _ _ _
    rw [if_pos (by decide)]
    refine wpAny_bind (wpAny_pure (wpAny_pure ?_))
    obtain ⟨u1,u2,u3,u4⟩:=iY (i:=2) (v := .ref x) ea da
    show wpAny (model prog w) _ (setField (.ref a) 2 (.ref x) >>= _) _ _ _
    exact wpAny_bind (wpAny_setField ea da la (wpAny_throw (h _ u4 ⟨_,u1,u3⟩)))
theorem jM {α:Type} {Q:α→Shared→Prop} (hq:a0W A s.heap) (h:∀ a h',(∀ b o,s.heap.get? b=some o→h'.get? b=some o)→(∃ o,h'.get? a=some o∧o.cls = .type "StopIteration")→E (.ref a) { s with heap:=h' }) :
    wpAny (model prog w) A (newExc (.type "StopIteration") [] >>= fun e=>(raiseNew e:Sem α)) Q E s:=by
  refine wpAny_bind ?_
  unfold newExc newTuple
  refine wpAny_bind (wpAny_newObj_type (wpAny_bind (wpAny_of_eq (a:=Value.none) (by simp only [firstArgMember];rfl) (wpAny_newObj_type ?_ (by size_fits)))) (by size_fits))
  generalize hh:s.heap.push { cls := .type "tuple",data := .seq ([]:List Value).toArray }=h1
  generalize ho:({ cls := .type "StopIteration",data := .fields (#[.ref s.heap.objs.size,.none,.none,.none,.bool false,.none]++ownMembersOf (.type "StopIteration") []) }:Obj)=o1
  have k1:∀ b o,s.heap.get? b=some o→(h1.push o1).get? b=some o:=fun b o e=>Heap.get?_push_of_some _ (hh ▸ Heap.get?_push_of_some _ e)
  have ea:(h1.push o1).get? h1.objs.size=some o1:=by
    subst ho
    exact Heap.get?_push_size h1 rfl
  have old:∀ b o,s.heap.get? b=some o→b≠h1.objs.size:=fun b o e z=>by
    have l1:b < h1.objs.size:=by
      rw [← hh,Heap.size_push]
      exact Nat.lt_succ_of_lt (Heap.lt_size e)
    exact absurd l1 (by rw [z];exact Nat.lt_irrefl _)
  refine ab5 (ws:=#[.ref s.heap.objs.size,.none,.none,.none,.bool false,.none]++ownMembersOf (.type "StopIteration") []) ?_ ea (by rw [← ho]) (by simp [ownMembersOf]) (fun x hx=>?_) fun h' k c=>h h1.objs.size h' (fun b o e=>(k b (old b o e)).trans (k1 b o e)) ?_
  · rcases hq with z | ⟨x,o,vs,a1,a2,a3⟩
    · exact .inl z
    · exact .inr ⟨x,o,vs,a1,k1 _ _ a2,a3⟩
  · rcases hq with z | ⟨x',o,vs,a1,a2,a3⟩
    · rw [z] at hx;cases hx
    · rw [a1] at hx;cases hx
      exact old _ _ a2
  · obtain ⟨o,e,c⟩:=c
    exact ⟨o,e,by rw [c,← ho]⟩
theorem mX {T id:String} {b:Builtin} {it:Addr} {Q:Option Value→Shared→Prop} (slot:Slot T (Str.ofString "__next__") id) (entry:entryFor table id=some b) (hT:s.TypeIs (.ref it) T) (args:argsOk id ⟨[.ref it],[]⟩)
    (hb:wpAny (model prog w) A.in1 (b ⟨[.ref it],[]⟩) (fun _ _=>False) (fun e s'=>∃ a o,e = .ref a∧s'.heap.get? a=some o∧o.cls = .type "StopIteration" ∧ Q none s') s):wpAny (model prog w) A (pyNext (.ref it)) Q E s:=by
  unfold pyNext
  refine wpAny_bind (wpAny_attempt (wpAny_callSpecial?_slot hT slot (wpAny_call_entry slot hT entry (wpAny_mono hb (fun _ _ z=>z.elim) fun e s' z=>?_) args)))
  obtain ⟨a,o,rfl,e1,e2,q⟩:=z
  exact wpAny_bind (wpAny_isInstance (T := "StopIteration") (b:=true) ⟨o,e1,e2⟩ isSubtype_stop (wpAny_pure q))
theorem xW {it:Addr} {o:Obj} {vs:Array Value} {i:Nat} {v:Value} (hq:a0W A s.heap) (e:s.heap.get? it=some o) (d:o.data = .fields vs) (l:vs[2]?≠some .none):a0W A (s.heap.update it (Obj.mapFields (·.setIfInBounds i v))):=by
  rcases hq with z | ⟨x,ox,ws,a1,a2,a3,a4⟩
  · exact .inl z
  · refine .inr ⟨x,ox,ws,a1,?_,a3,a4⟩
    have ne:x≠it:=fun z=>by
      subst z
      rw [e] at a2
      cases a2
      rw [d] at a3
      cases a3
      exact l a4
    exact ((iY e d).2.2.2 x ne).trans a2
theorem ab6 {it l:Addr} {i:Nat} {items:Array Value} {Q:Option Value→Shared→Prop} (hq:a0W A s.heap) (hit:s.heap.IsListIter it l i) (hl:s.heap.IsList l items) (hx:items[i]?=none)
    (h:∀ h',Heap.ExtBut it s.heap h'→Q none { s with heap:=h' }):wpAny (model prog w) A (pyNext (.ref it)) Q E s:=by
  obtain ⟨o,e1,c1,d1⟩:=id hit
  obtain ⟨ol,e2,_,nl,d2⟩:=hl
  refine mX slot_listiter_next entry_listiter_next hit.typeIs (args_listiter_next _) ?_
  show wpAny (model prog w) _ (field (.ref it) 0 >>= _) _ _ s
  refine wpAny_bind (wpAny_field e1 d1 (x := .ref l) rfl ?_)
  show wpAny (model prog w) _ (field (.ref it) 1 >>= _) _ _ s
  refine wpAny_bind (wpAny_field e1 d1 (x := .int i 0) rfl ?_)
  show wpAny (model prog w) _ (seqItems? (.ref l) >>= _) _ _ s
  refine wpAny_bind (wpAny_seqItems e2 d2 ?_)
  simp only [hx,Int.toNat_natCast]
  refine wpAny_bind (wpAny_rule (wpAny_bind (wpAny_setField e1 d1 (by simp) ?_)))
  refine jM (A:=A.in1) (xW hq e1 d1 (by simp)) fun a h' k c=>?_
  obtain ⟨oa,ea,ca⟩:=c
  exact ⟨a,oa,rfl,ea,ca,h h' fun b ob n e=>k b ob (((iY e1 d1).2.2.2 b n).trans e)⟩
theorem acO {it l:Addr} {i:Nat} {items:Array Value} {Q:Option Value→Shared→Prop} (hq:a0W A s.heap) (hit:s.heap.IsTupleIter it l i) (hl:s.heap.IsTuple l items) (hx:items[i]?=none)
    (h:∀ h',Heap.ExtBut it s.heap h'→Q none { s with heap:=h' }):wpAny (model prog w) A (pyNext (.ref it)) Q E s:=by
  obtain ⟨o,e1,c1,d1⟩:=id hit
  obtain ⟨ol,e2,_,nl,d2⟩:=hl
  refine mX F.slot_tuple_iterator_next F.entry_tuple_iterator_next hit.typeIs (F.args_tuple_iterator_next_1 _) ?_
  show wpAny (model prog w) _ (field (.ref it) 0 >>= _) _ _ s
  refine wpAny_bind (wpAny_field e1 d1 (x := .ref l) rfl ?_)
  show wpAny (model prog w) _ (field (.ref it) 1 >>= _) _ _ s
  refine wpAny_bind (wpAny_field e1 d1 (x := .int i 0) rfl ?_)
  show wpAny (model prog w) _ (seqItems? (.ref l) >>= _) _ _ s
  refine wpAny_bind (wpAny_seqItems e2 d2 ?_)
  simp only [hx,Int.toNat_natCast]
  refine wpAny_bind (wpAny_rule (wpAny_bind (wpAny_setField e1 d1 (by simp) ?_)))
  refine jM (A:=A.in1) (xW hq e1 d1 (by simp)) fun a h' k c=>?_
  obtain ⟨oa,ea,ca⟩:=c
  exact ⟨a,oa,rfl,ea,ca,h h' fun b ob n e=>k b ob (((iY e1 d1).2.2.2 b n).trans e)⟩
theorem acP {it:Addr} {x left step:Int} {Q:Option Value→Shared→Prop} (hq:a0W A s.heap) (hit:IsRangeIter s.heap it x left step) (hleft:left≤0)
    (h:∀ h',Heap.ExtBut it s.heap h'→Q none { s with heap:=h' }):wpAny (model prog w) A (pyNext (.ref it)) Q E s:=by
  refine mX F.slot_range_iterator_next F.entry_range_iterator_next ⟨_,hit,rfl⟩ (F.args_range_iterator_next_1 _) ?_
  show wpAny (model prog w) _ (field (.ref it) 0 >>= _) _ _ s
  refine wpAny_bind (wpAny_field hit rfl (i:=0) rfl ?_)
  show wpAny (model prog w) _ (field (.ref it) 1 >>= _) _ _ s
  refine wpAny_bind (wpAny_field hit rfl (i:=1) rfl ?_)
  show wpAny (model prog w) _ (field (.ref it) 2 >>= _) _ _ s
  refine wpAny_bind (wpAny_field hit rfl (i:=2) rfl ?_)
  show wpAny (model prog w) _ (if left≤0 then _ else _) _ _ s
  rw [if_pos hleft]
  refine wpAny_bind (wpAny_rule (wpAny_bind ?_))
  refine jM (A:=A.in1) hq fun a h' k c=>?_
  obtain ⟨oa,ea,ca⟩:=c
  exact ⟨a,oa,rfl,ea,ca,h h' fun b ob n e=>k b ob e⟩
theorem ab7 {it:Addr} {x:Str} {t:Tok} {i:Nat} {Q:Option Value→Shared→Prop} (hq:a0W A s.heap) (hit:s.heap.IsStrIter it "str_ascii_iterator" x t i) (hx:x.cps[i]?=none)
    (h:∀ h',Heap.ExtBut it s.heap h'→Q none { s with heap:=h' }):wpAny (model prog w) A (pyNext (.ref it)) Q E s:=by
  obtain ⟨o,e1,c1,d1⟩:=id hit
  refine mX F.slot_str_ascii_iterator_next F.entry_str_ascii_iterator_next hit.typeIs (F.args_str_ascii_iterator_next_1 _) ?_
  show wpAny (model prog w) _ (field (.ref it) 0 >>= _) _ _ s
  refine wpAny_bind (wpAny_field e1 d1 (x := .str x t) rfl ?_)
  show wpAny (model prog w) _ (field (.ref it) 1 >>= _) _ _ s
  refine wpAny_bind (wpAny_field e1 d1 (x := .int i 0) rfl ?_)
  simp only [hx,Int.toNat_natCast]
  refine wpAny_bind (wpAny_rule (wpAny_bind (wpAny_setField e1 d1 (by simp) (wpAny_bind (wpAny_letGo ?_)))))
  refine jM (A:=A.in1) (xW hq e1 d1 (by simp)) fun a h' k c=>?_
  obtain ⟨oa,ea,ca⟩:=c
  exact ⟨a,oa,rfl,ea,ca,h h' fun b ob n e=>k b ob (((iY e1 d1).2.2.2 b n).trans e)⟩
theorem ab8 {it:Addr} {x:Str} {t:Tok} {i:Nat} {Q:Option Value→Shared→Prop} (hq:a0W A s.heap) (hit:s.heap.IsStrIter it "str_iterator" x t i) (hx:x.cps[i]?=none)
    (h:∀ h',Heap.ExtBut it s.heap h'→Q none { s with heap:=h' }):wpAny (model prog w) A (pyNext (.ref it)) Q E s:=by
  obtain ⟨o,e1,c1,d1⟩:=id hit
  refine mX F.slot_str_iterator_next F.entry_str_iterator_next hit.typeIs (F.args_str_iterator_next_1 _) ?_
  show wpAny (model prog w) _ (field (.ref it) 0 >>= _) _ _ s
  refine wpAny_bind (wpAny_field e1 d1 (x := .str x t) rfl ?_)
  show wpAny (model prog w) _ (field (.ref it) 1 >>= _) _ _ s
  refine wpAny_bind (wpAny_field e1 d1 (x := .int i 0) rfl ?_)
  simp only [hx,Int.toNat_natCast]
  refine wpAny_bind (wpAny_rule (wpAny_bind (wpAny_setField e1 d1 (by simp) (wpAny_bind (wpAny_letGo ?_)))))
  refine jM (A:=A.in1) (xW hq e1 d1 (by simp)) fun a h' k c=>?_
  obtain ⟨oa,ea,ca⟩:=c
  exact ⟨a,oa,rfl,ea,ca,h h' fun b ob n e=>k b ob (((iY e1 d1).2.2.2 b n).trans e)⟩
end
end L2
namespace L2
open PySem PySem.Spec PyProof.Rows
abbrev Key:=Sum Int Str
def a1T:Key→Value→Bool
  | .inl k,v=>Value.isInt k v
  | .inr x,v=>Value.isStrOf x v
def axA (w:World):Key→Int
  | .inl k=>hashInt k
  | .inr x=>hashStr w x
theorem c7:∀ {k:Key} {v:Value},a1T k v=true→(∃ i t,k=Sum.inl i∧v=Value.int i t)∨(∃ x t,k=Sum.inr x∧v=Value.str x t)
  | .inl i,v,h=>by
    obtain ⟨t,e⟩:=Value.isInt_shape (k:=i) (v:=v) h
    exact .inl ⟨i,t,rfl,e⟩
  | .inr x,v,h=>by
    obtain ⟨t,e⟩:=Value.isStrOf_shape (x:=x) (v:=v) h
    exact .inr ⟨x,t,rfl,e⟩
theorem ab9 (i:Int) (t:Tok):a1T (.inl i) (.int i t)=true:=by simp [a1T,Value.isInt]
theorem abA (x:Str) (t:Tok):a1T (.inr x) (.str x t)=true:=by simp [a1T,Value.isStrOf]
theorem am3 (a b:Int):decide ((Sum.inl a:Key)=Sum.inl b)=(a == b):=by
  by_cases e:a=b
  · subst e;simp
  · have h:¬ (Sum.inl a:Key)=Sum.inl b:=fun q=>e (Sum.inl.inj q)
    rw [decide_eq_false h]
    exact (beq_eq_false_iff_ne.mpr e).symm
theorem am4 (a b:Str):decide ((Sum.inr a:Key)=Sum.inr b)=decide (a=b):=by
  by_cases e:a=b
  · subst e;simp
  · have h:¬ (Sum.inr a:Key)=Sum.inr b:=fun q=>e (Sum.inr.inj q)
    rw [decide_eq_false h,decide_eq_false e]
theorem am5 (a:Int) (b:Str):decide ((Sum.inl a:Key)=Sum.inr b)=false:=decide_eq_false (fun q=>nomatch q)
theorem am6 (a:Str) (b:Int):decide ((Sum.inr a:Key)=Sum.inl b)=false:=decide_eq_false (fun q=>nomatch q)
def aH (prog:Program) (w:World):PySem.KeyKind prog w Key where
  is:=a1T
  hash:=axA w
  inj:=fun v a b ha hb=>by
    rcases c7 ha with ⟨i,t,rfl,rfl⟩ | ⟨x,t,rfl,rfl⟩
    · rcases c7 hb with ⟨j,u,rfl,e⟩ | ⟨y,u,rfl,e⟩
      · injection e with e1 _;rw [e1]
      · exact nomatch e
    · rcases c7 hb with ⟨j,u,rfl,e⟩ | ⟨y,u,rfl,e⟩
      · exact nomatch e
      · injection e with e1 _;rw [e1]
  byValue:=fun k v h=>by
    rcases c7 h with ⟨i,t,rfl,rfl⟩ | ⟨x,t,rfl,rfl⟩ <;> rfl
  pyHash:=fun hv h=>by
    rcases c7 hv with ⟨i,t,rfl,rfl⟩ | ⟨x,t,rfl,rfl⟩
    · exact wpAny_pyHash_int h
    · exact wpAny_pyHash_str h
  eqBool:=fun hu hv h=>by
    rcases c7 hu with ⟨i,t,rfl,rfl⟩ | ⟨x,t,rfl,rfl⟩
    · rcases c7 hv with ⟨j,u,rfl,rfl⟩ | ⟨y,u,rfl,rfl⟩
      · rw [am3] at h;exact wpAny_eqBool_int h
      · rw [am5] at h;exact SeqAt.EqAt.int_str i t y u _ _ _ _ h
    · rcases c7 hv with ⟨j,u,rfl,rfl⟩ | ⟨y,u,rfl,rfl⟩
      · rw [am6] at h;exact SeqAt.EqAt.str_int x t j u _ _ _ _ h
      · rw [am4] at h;exact wpAny_eqBool_str h
  «strs» := fun k x t v h=>by
    rcases c7 h with ⟨i,u,rfl,e⟩ | ⟨y,u,rfl,e⟩
    · exact nomatch e
    · injection e with e1 _
      subst e1
      cases v <;> rfl
theorem xB (prog:Program) (w:World) (i:Int) (t:Tok):(aH prog w).is (.inl i) (.int i t)=true:=ab9 i t
theorem a5J (prog:Program) (w:World) (x:Str) (t:Tok):(aH prog w).is (.inr x) (.str x t)=true:=abA x t
end L2
namespace L2
open PySem PySem.Spec PyProof.Rows
inductive V where
  | non | bl (b:Bool) | int (i:Int) | str (x:Str) | byt (b:Array UInt8) | flt (b:UInt64) | ref (a:Addr) | ty (n:String)
  deriving DecidableEq
def RelV:V→Value→Prop
  | .non,u=>u=Value.none
  | .bl b,u=>u=Value.bool b
  | .int i,u=>∃ t,u=Value.int i t
  | .str x,u=>∃ t,u=Value.str x t
  | .byt b,u=>∃ t,u=Value.bytes b t
  | .flt b,u=>∃ t,u=Value.float b t
  | .ref a,u=>u=Value.ref a
  | .ty n,u=>u=Value.type n
abbrev Vals:List V→List Value→Prop:=Paired RelV
theorem Vals.length {xs:List V} {us:List Value} (r:Vals xs us):xs.length=us.length:=Paired.length r
theorem Vals.get:∀ {xs:List V} {us:List Value} {i:Nat} {x:V},Vals xs us→xs[i]?=some x→∃ u,us[i]?=some u∧RelV x u
  | _,_,_,_,.nil,e=>by simp at e
  | _,_,0,_,.cons r _,e=>by simp at e;subst e;exact ⟨_,rfl,r⟩
  | _,_,i+1,x,.cons _ t,e=>by
    obtain ⟨u,h1,h2⟩:=Vals.get (i:=i) (x:=x) t (by simpa using e)
    exact ⟨u,by simpa using h1,h2⟩
theorem Vals.set {x:V} {u:Value} (r:RelV x u):∀ {xs:List V} {us:List Value} (i:Nat),Vals xs us→Vals (xs.set i x) (us.set i u)
  | _,_,_,.nil => .nil
  | _,_,0,.cons _ t => .cons r t
  | _,_,i+1,.cons q t => .cons q (Vals.set r i t)
theorem Vals.append:∀ {xs ys:List V} {us ws:List Value},Vals xs us→Vals ys ws→Vals (xs++ys) (us++ws)
  | _,_,_,_,.nil,s=>s
  | _,_,_,_,.cons r t,s => .cons r (Vals.append t s)
theorem Vals.take:∀ {xs:List V} {us:List Value} (n:Nat),Vals xs us→Vals (xs.take n) (us.take n)
  | _,_,0,_ => .nil
  | _,_,_+1,.nil => .nil
  | _,_,n+1,.cons r t => .cons r (Vals.take n t)
theorem Vals.drop:∀ {xs:List V} {us:List Value} (n:Nat),Vals xs us→Vals (xs.drop n) (us.drop n)
  | _,_,0,r=>r
  | _,_,_+1,.nil => .nil
  | _,_,n+1,.cons _ t=>Vals.drop n t
def vY:Option V→Option Value→Prop
  | some v,some u=>RelV v u
  | none,none=>True
  | _,_=>False
def KV {κ:Type}:List (κ×V)→List (κ×Value)→Prop:=Paired fun (p:κ×V) (q:κ×Value)=>p.1=q.1∧RelV p.2 q.2
def kV:Key→V
  | .inl i => .int i
  | .inr x => .str x
inductive HO where
  | lst (xs:List V)
  | tup (xs:List V)
  | dK (kvs:List (Key×V)) | dT (kvs:List (List Key×V))
  | set (S:Int→Bool) (n:Nat)
  | ins (C dx:Addr) (fs:List (Str×V))
  | own (x:Addr)
  | xd (fs:List (Str×V))
  | met (f x:Addr)
  | rng (lo hi:Int)
  | mV (o:Obj) (u:HO)
  | qF (ps:Array Value)
  | ext (φ:Heap→Prop)
abbrev Hp:=Addr→Option HO
def upd (H:Hp) (a:Addr) (o:HO):Hp:=fun b=>if b=a then some o else H b
theorem aD {H:Hp} {a:Addr} {o:HO}:upd H a o a=some o:=by unfold upd;rw [if_pos rfl]
theorem aG {H:Hp} {a b:Addr} {o:HO} (h:b≠a):upd H a o b=H b:=by unfold upd;rw [if_neg h]
theorem jN {H:Hp} {a b:Addr} {o u:HO} (h:H a=some o) (h':H b=some u) (d:o≠u):a≠b:=by
  intro e;subst e;rw [h] at h';exact d (Option.some.inj h')
theorem aN {H:Hp} {a b:Addr} {o:HO} (h:H a=some o) (h':H b=none):a≠b:=by
  intro e;subst e;rw [h] at h';cases h'
section
variable (P:Program) (w:World)
def cG (H:Hp) (h:Heap) (a:Addr):HO→Prop
  | .lst xs=>xs.length≤sizeLine∧∃ (its:List Value) (n:Nat),Vals xs its∧h.get? a=some { cls := .type "list",data := .seq its.toArray n }
  | .tup xs=>xs.length≤sizeLine∧∃ its:List Value,Vals xs its∧IsTup h a its.toArray
  | .dK kvs=>kvs.length≤sizeLine∧(a == sysModules)=false∧∃ vs,KV kvs vs∧h.DictOf (aH P w) a vs
  | .dT kvs=>kvs.length≤sizeLine∧(a == sysModules)=false∧∃ xs:List (List Key×Addr×Value),
      Paired (fun (p:List Key×V) (q:List Key×Addr×Value)=>p.1=q.1∧H q.2.1=some (.tup (p.1.map kV))∧RelV p.2 q.2.2) kvs xs ∧
      ∃ o es ep,h.get? a=some o∧o.ExactDict∧o.data = .dict es ep∧es.toList=xs.map (entryOfKey (tupleKind (aH P w)))∧(xs.map (·.1)).Nodup
  | .set S n=>h.SetOf (intKind P w) a S n
  | .ins C dx fs=>H dx=some (.own a)∧fs.length≤1000∧dx≠a∧h.get? a=some (PySem.W.instObj C dx) ∧
      ∃ mA,h.Ns1 dx mA∧(∀ f,vY (fs.lookup f) (mA f))∧PySem.Within mA (fs.map (·.1))
  | .own _=>∃ o,h.get? a=some o
  | .xd fs=>∃ mA,h.Ns1 a mA∧∀ f,vY (fs.lookup f) (mA f)
  | .rng lo hi=>∃ t u v,h.get? a=some { cls := .type "range",data := .fields #[.int lo t,.int hi u,.int 1 v] }
  | .mV o u=>h.get? a=some o∧cG H h a u
  | .qF ps=>h.get? a=some { cls := .none,data := .fields ps }
  | .met f x=>h.get? a=some (PySem.W.methodObj (.ref f) (.ref x))
  | .ext φ=>φ h∧(∃ o,h.get? a=some o)∧∀ h1 h2:Heap,φ h1→(∀ o,h1.get? a=some o→h2.get? a=some o)→φ h2
def mW (H:Hp) (h:Heap):Prop:=∀ a o,H a=some o→cG P w H h a o
end
section
variable {P:Program} {w:World} {H H':Hp} {h h':Heap} {a:Addr} {o:HO}
theorem cG.lt (x:cG P w H h a o):a < h.objs.size:=by
  cases o with
  | lst xs=>obtain ⟨_,_,_,_,e⟩:=x;exact Heap.lt_size e
  | tup xs=>obtain ⟨_,_,_,p⟩:=x;exact p.lt
  | dK kvs=>obtain ⟨_,_,_,_,o,_,_,e,_⟩:=x;exact Heap.lt_size e
  | dT kvs=>obtain ⟨_,_,_,_,o,_,_,e,_⟩:=x;exact Heap.lt_size e
  | set S n=>obtain ⟨o,_,_,_,e,_⟩:=x;exact Heap.lt_size e
  | ins C dx fs=>obtain ⟨_,_,_,e,_⟩:=x;exact Heap.lt_size e
  | own y=>obtain ⟨_,e⟩:=x;exact Heap.lt_size e
  | xd fs=>obtain ⟨_,⟨_,_,_,e,_⟩,_⟩:=x;exact Heap.lt_size e
  | rng lo hi=>obtain ⟨_,_,_,e⟩:=x;exact Heap.lt_size e
  | mV ob u=>obtain ⟨e,_⟩:=x;exact Heap.lt_size e
  | qF ps=>exact Heap.lt_size (show h.get? a=some _ from x)
  | met f y=>exact Heap.lt_size (show h.get? a=some _ from x)
  | ext φ=>obtain ⟨_,⟨_,e⟩,_⟩:=x;exact Heap.lt_size e
theorem Paired.am7 {α β:Type} {F G:α→β→Prop}:∀ {l₁:List α} {l₂:List β},Paired F l₁ l₂→(∀ a b,F a b→G a b)→Paired G l₁ l₂
  | _,_,.nil,_ => .nil
  | _,_,.cons r t,f => .cons (f _ _ r) (Paired.am7 t f)
theorem cG.stay (x:cG P w H h a o) (k:∀ b u,(b=a∨H b=some (.own a))→h.get? b=some u→h'.get? b=some u)
    (ho:∀ b,H b=some (.own a)→H' b=some (.own a)) (ht:∀ b xs,H b=some (.tup xs)→H' b=some (.tup xs)):cG P w H' h' a o:=by
  induction o with
  | lst xs=>obtain ⟨z,its,n,r,e⟩:=x;exact ⟨z,its,n,r,k _ _ (.inl rfl) e⟩
  | tup xs=>obtain ⟨z,its,r,ob,e,c⟩:=x;exact ⟨z,its,r,ob,k _ _ (.inl rfl) e,c⟩
  | dK kvs=>obtain ⟨z,y,vs,r,ob,es,ep,e,c⟩:=x;exact ⟨z,y,vs,r,ob,es,ep,k _ _ (.inl rfl) e,c⟩
  | dT kvs =>
    obtain ⟨z,y,xs,r,ob,es,ep,e,c⟩:=x
    exact ⟨z,y,xs,Paired.am7 r fun p q z=>⟨z.1,ht _ _ z.2.1,z.2.2⟩,ob,es,ep,k _ _ (.inl rfl) e,c⟩
  | set S n=>obtain ⟨ob,es,ep,t,e,c⟩:=x;exact ⟨ob,es,ep,t,k _ _ (.inl rfl) e,c⟩
  | ins C dx fs =>
    obtain ⟨d,z,ne,e,mA,⟨od,es,ep,e2,c⟩,r⟩:=x
    exact ⟨ho _ d,z,ne,k _ _ (.inl rfl) e,mA,⟨od,es,ep,k _ _ (.inr d) e2,c⟩,r⟩
  | own y=>obtain ⟨ob,e⟩:=x;exact ⟨ob,k _ _ (.inl rfl) e⟩
  | xd fs=>obtain ⟨mA,⟨od,es,ep,e,c⟩,r⟩:=x;exact ⟨mA,⟨od,es,ep,k _ _ (.inl rfl) e,c⟩,r⟩
  | rng lo hi=>obtain ⟨t,u,v,e⟩:=x;exact ⟨t,u,v,k _ _ (.inl rfl) e⟩
  | mV ob u ih=>obtain ⟨e,q⟩:=x;exact ⟨k _ _ (.inl rfl) e,ih q⟩
  | qF ps =>
    have e:h.get? a=some { cls := .none,data := .fields ps }:=x
    show h'.get? a=some { cls := .none,data := .fields ps }
    exact k a _ (.inl rfl) e
  | met f y =>
    have e:h.get? a=some (PySem.W.methodObj (.ref f) (.ref y)):=x
    show h'.get? a=some (PySem.W.methodObj (.ref f) (.ref y))
    exact k a _ (.inl rfl) e
  | ext φ=>obtain ⟨p,⟨o,e⟩,st⟩:=x;exact ⟨st _ _ p fun o q=>k _ _ (.inl rfl) q,⟨o,k _ _ (.inl rfl) e⟩,st⟩
theorem mW.lt (x:mW P w H h) (e:H a=some o):a < h.objs.size:=(x a o e).lt
theorem mW.fresh (x:mW P w H h) (e:h.objs.size≤a):H a=none:=by
  cases q:H a with
  | none=>rfl
  | some u=>exact absurd (Nat.lt_of_lt_of_le (x.lt q) e) (Nat.lt_irrefl _)
theorem mW.kept (x:mW P w H h) (k:∀ b u,h.get? b=some u→h'.get? b=some u):mW P w H h':=fun a o e =>
  (x a o e).stay (fun b u _ q=>k b u q) (fun _ q=>q) fun _ _ q=>q
theorem mW.laid (x:mW P w H h) (k:∀ b u,h.get? b=some u→h'.get? b=some u) (hp:h.objs.size≤a) (new:cG P w (upd H a o) h' a o):mW P w (upd H a o) h':=fun b u e=>by
  have hn:=x.fresh hp
  by_cases hb:b=a
  · subst hb;rw [aD] at e;cases e;exact new
  · rw [aG hb] at e
    exact (x b u e).stay (fun c v _ q=>k c v q) (fun c q=>by rw [aG (aN q hn)];exact q) fun c xs q=>by rw [aG (aN q hn)];exact q
end
def Rd (H:Hp) (a:Addr) (u:HO):Prop:=H a=some u∨∃ o,H a=some (.mV o u)
theorem Rd.of {H:Hp} {a:Addr} {u:HO} (h:H a=some u):Rd H a u := .inl h
theorem Rd.ok {P:Program} {w:World} {H:Hp} {h:Heap} {a:Addr} {u:HO} (r:Rd H a u) (x:mW P w H h):cG P w H h a u:=by
  rcases r with r | ⟨o,r⟩
  · exact x a u r
  · obtain ⟨_,q⟩:=x a _ r
    exact q
def Mut:Option HO→Prop
  | some (.lst _)=>True
  | some (.dK _)=>True
  | some (.dT _)=>True
  | some (.set _ _)=>True
  | some (.ins _ _ _)=>True
  | some (.ext _)=>True
  | _=>False
section
variable {P:Program} {w:World} {H:Hp} {h h':Heap} {x e:Addr} {o':HO}
theorem mW.write (ok:mW P w H h) (mu:Mut (H x)) (he:e=x∨H e=some (.own x)) (k:∀ b u,b≠e→h.get? b=some u→h'.get? b=some u) (heo:∃ u,h'.get? e=some u)
    (new:cG P w (upd H x o') h' x o'):mW P w (upd H x o') h':=fun b u q=>by
  have arU:∀ c y,H c=some (.own y)→c≠x:=fun c y r z=>by subst z;rw [r] at mu;exact mu
  have axB:∀ c xs,H c=some (.tup xs)→c≠x:=fun c xs r z=>by subst z;rw [r] at mu;exact mu
  by_cases hb:b=x
  · subst hb;rw [aD] at q;cases q;exact new
  · rw [aG hb] at q
    by_cases hbe:b=e
    · have q':H b=some (.own x):=by
        rcases he with z | z
        · exact absurd (hbe.trans z) hb
        · rw [hbe];exact z
      rw [q] at q';cases q'
      obtain ⟨v,hv⟩:=heo
      exact ⟨v,by rw [hbe];exact hv⟩
    · refine (ok b u q).stay (fun c v hc r=>k c v ?_ r) (fun c r=>by rw [aG (arU c b r)];exact r) fun c xs r=>by rw [aG (axB c xs r)];exact r
      rcases hc with rfl | hc
      · exact hbe
      · rintro rfl
        rcases he with z | z
        · exact arU c b hc z
        · rw [hc] at z;cases z;exact hb rfl
end
structure Un (fs ex:List Addr) (H H':Hp) (h h':Heap):Prop where
  keep:∀ b o,h.get? b=some o→H b=none→b ∉ fs→b ∉ ex→h'.get? b=some o
  slot:∀ b o,h.get? b=some o→H b=none→b∈fs→b ∉ ex→∃ sl,h'.get? b=some { o with slots:=sl }
  free:∀ b o,h.get? b=some o→H b=none→b ∉ ex→H' b=none
  there:∀ b o,h.get? b=some o→b ∉ ex→∃ o',h'.get? b=some o'
  tups:∀ b xs,H b=some (.tup xs)→H' b=some (.tup xs)
  cQ:∀ b o u,H b=some (.mV o u)→H' b=some (.mV o u)
  m7:∀ b ps,H b=some (.qF ps)→∃ more,H' b=some (.qF (ps++more))
section
variable {fs fs' ex ex':List Addr} {H H1 H2:Hp} {h h1 h2 h':Heap} {a x e:Addr} {o:HO}
theorem Un.any (u:Un fs ex H H1 h h1) {b:Addr} {ob:Obj} (q:h.get? b=some ob) (n:H b=none) (hx:b ∉ ex):∃ sl,h1.get? b=some { ob with slots:=sl }:=by
  by_cases hb:b∈fs
  · exact u.slot b ob q n hb hx
  · exact ⟨ob.slots,u.keep b ob q n hb hx⟩
theorem Un.trans (a:Un fs ex H H1 h h1) (b:Un fs ex H1 H2 h1 h2):Un fs ex H H2 h h2 where
  keep:=fun c ob q n hc hx=>b.keep c ob (a.keep c ob q n hc hx) (a.free c ob q n hx) hc hx
  slot:=fun c ob q n hc hx=>by
    obtain ⟨sl,e1⟩:=a.slot c ob q n hc hx
    obtain ⟨sl',e2⟩:=b.slot c _ e1 (a.free c ob q n hx) hc hx
    exact ⟨sl',e2⟩
  free:=fun c ob q n hx=>by
    obtain ⟨o',e1⟩:=a.there c ob q hx
    exact b.free c o' e1 (a.free c ob q n hx) hx
  there:=fun c ob q hx=>by
    obtain ⟨o',e1⟩:=a.there c ob q hx
    exact b.there c o' e1 hx
  tups:=fun c xs q=>b.tups c xs (a.tups c xs q)
  cQ:=fun c ob xs q=>b.cQ c ob xs (a.cQ c ob xs q)
  m7:=fun c ps q=>by
    obtain ⟨m1,e1⟩:=a.m7 c ps q
    obtain ⟨m2,e2⟩:=b.m7 c _ e1
    exact ⟨m1++m2,by rw [e2,Array.append_assoc]⟩
theorem Un.kept (k:∀ b u,h.get? b=some u→h'.get? b=some u):Un fs ex H H h h' :=
  ⟨fun b ob q _ _ _=>k b ob q,fun b ob q _ _ _=>⟨ob.slots,k b ob q⟩,fun _ _ _ n _=>n,fun b ob q _=>⟨ob,k b ob q⟩,fun _ _ q=>q,fun _ _ _ q=>q,fun _ ps q=>⟨#[],by rw [q];simp⟩⟩
theorem Un.refl:Un fs ex H H h h:=Un.kept fun _ _ q=>q
theorem Un.laid (k:∀ b u,h.get? b=some u→h'.get? b=some u) (hp:h.objs.size≤a) (hn:H a=none):Un fs ex H (upd H a o) h h' where
  keep:=fun b u q _ _ _=>k b u q
  slot:=fun b u q _ _ _=>⟨u.slots,k b u q⟩
  free:=fun b u q n _=>by rw [aG (Nat.ne_of_lt (Nat.lt_of_lt_of_le (Heap.lt_size q) hp))];exact n
  there:=fun b u q _=>⟨u,k b u q⟩
  tups:=fun b xs q=>by rw [aG (aN q hn)];exact q
  cQ:=fun b u xs q=>by rw [aG (aN q hn)];exact q
  m7:=fun b ps q=>⟨#[],by rw [aG (aN q hn),q];simp⟩
theorem Un.write (mu:Mut (H x)) (he:e=x∨H e=some (.own x)) (k:∀ b u,b≠e→h.get? b=some u→h'.get? b=some u) (heo:∃ u,h'.get? e=some u):Un fs ex H (upd H x o) h h':=by
  have hx:∀ b,H b=none→b≠x:=fun b n z=>by subst z;rw [n] at mu;exact mu
  have hb:∀ b,H b=none→b≠e:=fun b n z=>by
    subst z
    rcases he with r | r
    · exact hx b n r
    · rw [n] at r;cases r
  have hm:∀ b u,H b=some u→¬ Mut (some u)→b≠x:=fun b u q nm z=>by subst z;rw [q] at mu;exact nm mu
  refine ⟨fun b u q n _ _=>k b u (hb b n) q,fun b u q n _ _=>⟨u.slots,k b u (hb b n) q⟩,fun b u q n _=>by rw [aG (hx b n)];exact n,fun b u q _=>?_,
    fun b xs q=>by rw [aG (hm b _ q fun z=>z)];exact q,fun b u xs q=>by rw [aG (hm b _ q fun z=>z)];exact q,fun b ps q=>⟨#[],by rw [aG (hm b _ q fun z=>z),q];simp⟩⟩
  by_cases hbe:b=e
  · subst hbe;exact heo
  · exact ⟨u,k b u hbe q⟩
theorem Un.mono (u:Un fs ex H H1 h h1) (hs:∀ b∈fs,b∈fs') (hx:∀ b∈ex,b∈ex'):Un fs' ex' H H1 h h1 :=
  ⟨fun b ob q n hb he=>u.keep b ob q n (fun z=>hb (hs b z)) fun z=>he (hx b z),fun _ _ q n _ he=>u.any q n fun z=>he (hx _ z),fun b ob q n he=>u.free b ob q n fun z=>he (hx b z),fun b ob q he=>u.there b ob q fun z=>he (hx b z),u.tups,u.cQ,u.m7⟩
end
def trk (h:Heap) (H:Hp):List Addr:=(List.range h.objs.size).filter fun a=>(H a).isSome
def yO (h:Heap) (H:Hp):Heap:=PySem.W.hideAll h (trk h H)
theorem abB (h:Heap) (H:Hp):(yO h H).objs.size=h.objs.size:=PySem.W.hideAll_size _ _
theorem a5K {h:Heap} {H:Hp} {b:Addr} {o:Obj} (e:h.get? b=some o) (n:H b=none):(yO h H).get? b=some o :=
  PySem.W.hideAll_get _ e fun hm=>by
    have q:(H b).isSome=true:=(List.mem_filter.mp hm).2
    rw [n] at q;simp at q
theorem ah4 {h:Heap} {H:Hp} {b:Addr} {o:Obj} (e:(yO h H).get? b=some o):h.get? b=some o∧H b=none:=by
  have e':h.get? b=some o:=PySem.W.of_hideAll (trk h H) e
  refine ⟨e',?_⟩
  cases q:H b with
  | none=>rfl
  | some x =>
    have hm:b∈trk h H:=List.mem_filter.mpr ⟨List.mem_range.mpr (Heap.lt_size e'),by simp [q]⟩
    have z:(yO h H).get? b=none:=PySem.W.hideAll_none (trk h H) hm
    rw [z] at e;cases e
def ah5 (g h:Heap) (L:Addr):List (Addr×Obj):=(List.range h.objs.size).filterMap fun a=>if a=L∨(g.get? a).isSome=true then none else (h.get? a).map fun o=>(a,o)
def rest (g h:Heap) (L d:Addr):List (Addr×Obj):=(ah5 g h L).filter fun p=>decide (p.1≠d)
end L2
namespace L2
open PySem PySem.Spec PyProof.Rows
structure Mod (K:PySem.W.Frag) (mg:Str→Option Value) (base:Heap):Prop where
  kin:K.In base
  glob:base.Ns mainGlobals mg
  blt:∃ mb,base.Ns builtinsNs mb∧∀ x:Str,x ≠ "__name__" → mb x=bootBuiltins x
  nolimit:base.NoLimit
structure Cx where
  prog:Program
  w:World
  K:PySem.W.Frag
  mg:Str→Option Value
  base:Heap
  A:Around
  N:List Str
  s₀:Shared
  H₀:Hp
  env:Env
  outer:List Env
  stack:List Env
  ex:List Addr
  fn:Str→Bool
  calm:Bool
  pn:List (Addr×Obj)
  tp:List (Addr×List V)
  xe:Value→Shared→Prop
  need:Bool:=false
def frs (l:List Env):List Addr:=l.filterMap (·.frame)
abbrev Cx.fs (X:Cx):List Addr:=frs X.outer
def Vis (sc:Scope) (x:Str):Prop:=sc.names.lookup x=some .local∨sc.names.lookup x=some .cell∨sc.names.lookup x=some .free
def Loc (sc:Scope) (x:Str):Prop:=sc.names.lookup x=some .local∨sc.names.lookup x=some .cell
def Look (env:Env) (h:Heap) (m:Str→Option Value) (x:Str) (u:Value):Prop :=
  (env.kindOf x=some .local∧m x=some u)∨((env.kindOf x=some .cell∨env.kindOf x=some .free)∧∃ c,env.cells.lookup x=some c∧h.IsCell c (some u))
structure Cx.Ok (X:Cx):Prop where
  mod:Mod X.K X.mg X.base
  kind:X.env.scope.kind = .function
  glob:X.env.globals=mainGlobals
  blt:X.env.builtins=builtinsNs
  above:X.s₀.heap.objs.size≤X.env.locals
  inj:∀ x y c,X.env.cells.lookup x=some c→X.env.cells.lookup y=some c→x=y
  has:∀ x,(X.env.kindOf x=some .cell∨X.env.kindOf x=some .free)→∃ c,X.env.cells.lookup x=some c
  cab:∀ x c,X.fn x=true→X.env.cells.lookup x=some c→X.s₀.heap.objs.size≤c
  hd:X.calm=true→X.A.handled=none
  frames:X.A.frames=some X.stack
  stk:X.stack=X.outer∨(X.stack=X.env :: X.outer∧X.env.frame=some X.env.locals)
  exf:∀ b∈X.ex,b≠X.env.locals∧∀ x c,X.env.cells.lookup x=some c→c≠b
  bs:∀ b o,X.base.get? b=some o→X.s₀.heap.get? b=some o∧X.H₀ b=none
  bsz:X.base.objs.size≤X.s₀.heap.objs.size
  a5M:∀ b o,X.base.get? b=some o→b ∉ X.ex
  a7I:∀ b∈X.ex,b ∉ X.fs
  mY:X.s₀.heap.FunFrames X.base X.outer
  frf:∀ b∈X.fs,X.H₀ b=none
def Hnd (A:Around) (H:Hp):Prop:=A.handled=none∨∃ x o u vs,A.handled=some (.ref x)∧H x=some (.mV o u)∧o.data = .fields vs∧vs[2]?=some .none
theorem Hnd.mono {A:Around} {H H':Hp} (h:Hnd A H) (f:∀ b o u,H b=some (.mV o u)→H' b=some (.mV o u)):Hnd A H':=by
  rcases h with z | ⟨x,o,u,vs,a,b,c⟩
  · exact .inl z
  · exact .inr ⟨x,o,u,vs,a,f _ _ _ b,c⟩
theorem Hnd.heap {P:Program} {w:World} {A:Around} {H:Hp} {h:Heap} (q:Hnd A H) (hok:mW P w H h):a0W A h:=by
  rcases q with z | ⟨x,o,u,vs,a,b,c⟩
  · exact .inl z
  · exact .inr ⟨x,o,vs,a,(hok x _ b).1,c⟩
structure Inv (X:Cx) (pins:List (Addr×Obj)) (σ:List (Option V)) (H:Hp) (s:Shared):Prop where
  ok:X.Ok
  os:s.os=X.s₀.os
  bare:AllBare s.gens
  base:Un X.fs X.ex X.H₀ H X.s₀.heap s.heap
  loc:∃ m,s.heap.Ns X.env.locals m∧∀ (i:Nat) (x:Str) (v:V),X.N[i]?=some x→σ[i]?=some (some v)→Vis X.env.scope x→∃ u,RelV v u∧Look X.env s.heap m x u
  cell:∀ x c,X.env.cells.lookup x=some c→∃ v,s.heap.IsCell c v
  free:H X.env.locals=none
  jO:∀ x c,X.env.cells.lookup x=some c→H c=none
  pin:∀ p∈X.pn++pins,s.heap.get? p.1=some p.2∧H p.1=none∧p.1≠X.env.locals∧p.1 ∉ X.fs∧∀ v,p.2.data ≠ .cell v
  hok:mW X.prog X.w H s.heap
  len:σ.length=X.N.length
  hnd:Hnd X.A H
  tup:∀ p∈X.tp,H p.1=some (.tup p.2)
section
variable {X:Cx} {pins:List (Addr×Obj)} {σ:List (Option V)} {H H':Hp} {s:Shared} {h':Heap}
theorem Cx.Ok.axC (ok:X.Ok) {b:Addr} {o:Obj} (e:X.base.get? b=some o):b ∉ X.fs:=fun hb=>by
  have:=(ok.mY.mem hb).1
  rw [e] at this;cases this
theorem Inv.bs (I:Inv X pins σ H s):∀ b o,X.base.get? b=some o→s.heap.get? b=some o∧H b=none:=fun b o e =>
  ⟨I.base.keep b o (I.ok.bs b o e).1 (I.ok.bs b o e).2 (I.ok.axC e) (I.ok.a5M b o e),I.base.free b o (I.ok.bs b o e).1 (I.ok.bs b o e).2 (I.ok.a5M b o e)⟩
theorem Inv.bk (I:Inv X pins σ H s):∀ b o,X.base.get? b=some o→s.heap.get? b=some o:=fun b o e=>(I.bs b o e).1
theorem Inv.mod (I:Inv X pins σ H s):Mod X.K X.mg X.base:=I.ok.mod
theorem Inv.yP (I:Inv X pins σ H s):X.K.In s.heap:=I.ok.mod.kin.keeps I.bk
theorem Inv.nolimit (I:Inv X pins σ H s):s.heap.NoLimit:=I.ok.mod.nolimit.keeps I.bk
theorem Inv.fr (I:Inv X pins σ H s):∃ m,Fr X.base X.env.locals s.heap m :=
  let ⟨m,hn,_⟩:=I.loc
  ⟨m,hn,I.bk,Nat.le_trans I.ok.bsz I.ok.above⟩
theorem Inv.lt (I:Inv X pins σ H s):X.env.locals < s.heap.objs.size:=let ⟨_,hn,_⟩:=I.loc;hn.lt
theorem Inv.sz (I:Inv X pins σ H s):X.s₀.heap.objs.size≤s.heap.objs.size:=Nat.le_trans I.ok.above (Nat.le_of_lt I.lt)
theorem Inv.axD (I:Inv X pins σ H s) {a:Addr} (h:s.heap.objs.size≤a):a ∉ X.fs:=fun hb=>by
  obtain ⟨_,o,ho,_⟩:=I.ok.mY.mem hb
  exact absurd (Nat.lt_of_lt_of_le (Heap.lt_size ho) (Nat.le_trans I.sz h)) (Nat.lt_irrefl _)
theorem Inv.cne (I:Inv X pins σ H s):∀ x c,X.env.cells.lookup x=some c→c≠X.env.locals:=fun x c e z=>by
  obtain ⟨v,o,ho,hd⟩:=I.cell x c e
  obtain ⟨m,⟨o',es,ep,ho',hd',_⟩,_⟩:=I.loc
  rw [z,ho'] at ho;cases ho;rw [hd'] at hd;cases hd
theorem Inv.mY (I:Inv X pins σ H s):s.heap.FunFrames X.base X.outer:=by
  have all:∀ (l:List Env),(∀ b∈frs l,b∈X.fs)→X.s₀.heap.FunFrames X.base l→s.heap.FunFrames X.base l:=by
    intro l
    induction l with
    | nil=>intro _ _;trivial
    | cons env r ih =>
      intro hs hl
      obtain ⟨hk,⟨L,o,hf,hn,ho,hd⟩,hr⟩:=hl
      have hL:L∈X.fs:=hs L (by unfold frs;rw [List.filterMap_cons,hf];exact List.mem_cons_self)
      obtain ⟨sl,e⟩:=I.base.slot L o ho (I.ok.frf L hL) hL fun z=>I.ok.a7I L z hL
      exact ⟨hk,⟨L,_,hf,hn,e,hd⟩,ih (fun b hb=>hs b (by unfold frs;rw [List.filterMap_cons,hf];exact List.mem_cons_of_mem _ hb)) hr⟩
  exact all X.outer (fun _ hb=>hb) I.ok.mY
theorem Inv.stack (I:Inv X pins σ H s):s.heap.FunFrames X.base X.stack:=by
  rcases I.ok.stk with e | ⟨e,hf⟩
  · rw [e];exact I.mY
  · rw [e]
    obtain ⟨m,hn,_⟩:=I.loc
    refine .cons (by rw [I.ok.kind];decide) hf hn ?_ I.mY
    exact Heap.get?_none_of_le (Nat.le_trans I.ok.bsz I.ok.above)
theorem Inv.a7K (I:Inv X pins σ H s):∀ b∈frs X.stack,b∈X.env.locals :: X.fs:=fun b hb=>by
  rcases I.ok.stk with e | ⟨e,hf⟩
  · rw [e] at hb;exact List.mem_cons_of_mem _ hb
  · rw [e] at hb
    unfold frs at hb
    rw [List.filterMap_cons,hf] at hb
    exact hb
theorem Inv.a3G (I:Inv X pins σ H s):∀ b∈frs X.stack,H b=none:=fun b hb=>by
  rcases List.mem_cons.mp (I.a7K b hb) with e | hb
  · rw [e];exact I.free
  · obtain ⟨_,o,ho,_⟩:=I.ok.mY.mem hb
    exact I.base.free b o ho (I.ok.frf b hb) fun z=>I.ok.a7I b z hb
theorem Inv.step {g':Array GenState} {t':Nat} {d':Drawn} {ch:List Addr} (I:Inv X pins σ H s)
    (hch:∀ b∈ch,(b∈X.ex∨X.s₀.heap.objs.size≤b)∧b≠X.env.locals∧(∀ x c,X.env.cells.lookup x=some c→c≠b)∧∀ p∈X.pn++pins,p.1≠b)
    (keep:∀ b o,b≠X.env.locals→b ∉ X.fs→b ∉ ch→s.heap.get? b=some o→H b=none→h'.get? b=some o)
    (slot:∀ b o,b≠X.env.locals→b∈X.fs→b ∉ ch→s.heap.get? b=some o→H b=none→∃ sl,h'.get? b=some { o with slots:=sl }) (free:∀ b o,b ∉ ch→s.heap.get? b=some o→H b=none→H' b=none)
    (there:∀ b o,b ∉ ch→s.heap.get? b=some o→∃ o',h'.get? b=some o')
    (tups:∀ b xs,H b=some (.tup xs)→H' b=some (.tup xs)) (cQ:∀ b o u,H b=some (.mV o u)→H' b=some (.mV o u)) (m7:∀ b ps,H b=some (.qF ps)→∃ more,H' b=some (.qF (ps++more)))
    (ns:∀ m,s.heap.Ns X.env.locals m→h'.Ns X.env.locals m) (hok:mW X.prog X.w H' h') (hg:AllBare g') :
    Inv X pins σ H' { s with heap:=h',gens:=g',drawn:=d',toks:=t' }:=by
  have neL:∀ b o,X.s₀.heap.get? b=some o→b≠X.env.locals:=fun b o e=>Nat.ne_of_lt (Nat.lt_of_lt_of_le (Heap.lt_size e) I.ok.above)
  have neC:∀ b o,X.s₀.heap.get? b=some o→b ∉ X.ex→b ∉ ch:=fun b o e hx hb=>by
    rcases (hch b hb).1 with z | z
    · exact hx z
    · exact absurd (Nat.lt_of_lt_of_le (Heap.lt_size e) z) (Nat.lt_irrefl _)
  have cellK:∀ x c,X.env.cells.lookup x=some c→∀ v,s.heap.IsCell c v→h'.IsCell c v:=fun x c e v ⟨o,ho,hd⟩=>by
    have nch:c ∉ ch:=fun z=>(hch c z).2.2.1 x c e rfl
    by_cases hc:c∈X.fs
    · obtain ⟨sl,q⟩:=slot c o (I.cne x c e) hc nch ho (I.jO x c e)
      exact ⟨_,q,hd⟩
    · exact ⟨o,keep c o (I.cne x c e) hc nch ho (I.jO x c e),hd⟩
  refine ⟨I.ok,I.os,hg,⟨fun b o e n hb hx=>?_,fun b o e n hb hx=>?_,fun b o e n hx=>?_,fun b o e hx=>?_,fun b xs e=>tups b xs (I.base.tups b xs e),fun b o xs e=>cQ b o xs (I.base.cQ b o xs e),fun b ps e=>?_⟩,?_,fun x c e=>?_,?_,fun x c e=>?_,fun p hp=>?_,hok,I.len,I.hnd.mono cQ,fun p hp=>tups _ _ (I.tup p hp)⟩
  · exact keep b o (neL b o e) hb (neC b o e hx) (I.base.keep b o e n hb hx) (I.base.free b o e n hx)
  · obtain ⟨sl,e1⟩:=I.base.slot b o e n hb hx
    obtain ⟨sl',e2⟩:=slot b _ (neL b o e) hb (neC b o e hx) e1 (I.base.free b o e n hx)
    exact ⟨sl',e2⟩
  · obtain ⟨o',e1⟩:=I.base.there b o e hx
    exact free b o' (neC b o e hx) e1 (I.base.free b o e n hx)
  · obtain ⟨o',e1⟩:=I.base.there b o e hx
    exact there b o' (neC b o e hx) e1
  · obtain ⟨m1,e1⟩:=I.base.m7 b ps e
    obtain ⟨m2,e2⟩:=m7 b _ e1
    exact ⟨m1++m2,by rw [e2,Array.append_assoc]⟩
  · obtain ⟨m,hn,hl⟩:=I.loc
    refine ⟨m,ns m hn,fun i x v e1 e2 e3=>?_⟩
    obtain ⟨u,r,l⟩:=hl i x v e1 e2 e3
    refine ⟨u,r,?_⟩
    rcases l with l | ⟨k,c,e,z⟩
    · exact .inl l
    · exact .inr ⟨k,c,e,cellK x c e _ z⟩
  · obtain ⟨v,z⟩:=I.cell x c e
    exact ⟨v,cellK x c e v z⟩
  · obtain ⟨m,⟨o,_,_,ho,_⟩,_⟩:=I.loc
    exact free _ o (fun z=>(hch _ z).2.1 rfl) ho I.free
  · obtain ⟨v,o,ho,hd⟩:=I.cell x c e
    exact free c o (fun z=>(hch c z).2.2.1 x c e rfl) ho (I.jO x c e)
  · obtain ⟨e,n,ne,nf,d⟩:=I.pin p hp
    have nch:p.1 ∉ ch:=fun z=>(hch p.1 z).2.2.2 p hp rfl
    exact ⟨keep p.1 p.2 ne nf nch e n,free p.1 p.2 nch e n,ne,nf,d⟩
theorem Inv.un {t':Nat} (I:Inv X pins σ H s) (u:Un X.fs [] H H' s.heap h') (hok:mW X.prog X.w H' h'):Inv X pins σ H' { s with heap:=h',toks:=t' }:=by
  obtain ⟨m,⟨o,es,ep,ho,r⟩,_⟩:=id I.loc
  obtain ⟨sl,hL⟩:=u.any ho I.free (by simp)
  exact I.step (g':=s.gens) (d':=s.drawn) (ch:=[]) (fun _ z=>nomatch z) (fun b o _ hb _ e n=>u.keep b o e n hb (by simp)) (fun b o _ hb _ e n=>u.slot b o e n hb (by simp)) (fun b o _ e n=>u.free b o e n (by simp)) (fun b o _ e=>u.there b o e (by simp)) u.tups u.cQ u.m7 (fun m' hm=>by
    obtain ⟨o',es',ep',ho',r'⟩:=hm
    rw [ho] at ho';cases ho'
    exact ⟨_,es',ep',hL,r'⟩) hok I.bare
theorem Inv.call {g':Array GenState} {t':Nat} {d':Drawn} {ch:List Addr} (I:Inv X pins σ H s) (u:Un (frs X.stack) ch H H' s.heap h') (hok:mW X.prog X.w H' h') (hg:AllBare g')
    (hch:∀ b∈ch,(b∈X.ex∨X.s₀.heap.objs.size≤b)∧b≠X.env.locals∧(∀ x c,X.env.cells.lookup x=some c→c≠b)∧∀ p∈X.pn++pins,p.1≠b) :
    Inv X pins σ H' { s with heap:=h',gens:=g',drawn:=d',toks:=t' }:=by
  obtain ⟨m,⟨o,es,ep,ho,r⟩,_⟩:=id I.loc
  obtain ⟨sl,hL⟩:=u.any ho I.free fun z=>(hch _ z).2.1 rfl
  exact I.step (ch:=ch) hch (fun b o hL hb hc e n=>u.keep b o e n (fun z=>(List.mem_cons.mp (I.a7K b z)).elim hL hb) hc) (fun b o _ _ hc e n=>u.any e n hc) (fun b o hc e n=>u.free b o e n hc) (fun b o hc e=>u.there b o e hc) u.tups u.cQ u.m7 (fun m' hm=>by
    obtain ⟨o',es',ep',ho',r'⟩:=hm
    rw [ho] at ho';cases ho'
    exact ⟨_,es',ep',hL,r'⟩) hok hg
theorem Inv.turned {t':Nat} {it:Addr} (I:Inv X pins σ H s) (k:∀ b o,b≠it→s.heap.get? b=some o→h'.get? b=some o) (hn:H it=none) (hL:it≠X.env.locals)
    (h1:it∈X.ex∨X.s₀.heap.objs.size≤it) (h2:∀ x c,X.env.cells.lookup x=some c→c≠it) (h3:∀ p∈X.pn++pins,p.1≠it):Inv X pins σ H { s with heap:=h',toks:=t' }:=by
  have nit:∀ b u,H b=some u→b≠it:=fun b u e z=>by rw [z,hn] at e;cases e
  refine I.step (g':=s.gens) (d':=s.drawn) (ch:=[it]) (fun b hb=>?_) (fun b o _ _ hc e _=>k b o (fun z=>hc (by simp [z])) e) (fun b o _ _ hc e _=>⟨o.slots,k b o (fun z=>hc (by simp [z])) e⟩) (fun _ _ _ _ n=>n)
    (fun b o hc e=>⟨o,k b o (fun z=>hc (by simp [z])) e⟩) (fun _ _ e=>e) (fun _ _ _ e=>e) (fun b ps e=>⟨#[],by rw [e];simp⟩) (fun m hm=>?_) (fun b u e=>?_) I.bare
  · have e:b=it:=by simpa using hb
    subst e
    exact ⟨h1,hL,h2,h3⟩
  · obtain ⟨o,es,ep,ho,r⟩:=hm
    exact ⟨o,es,ep,k _ o (Ne.symm hL) ho,r⟩
  · refine (I.hok b u e).stay (fun c v hc q=>k c v ?_ q) (fun _ q=>q) fun _ _ q=>q
    rcases hc with z | z
    · rw [z];exact nit b u e
    · exact nit c _ z
theorem Inv.tok (I:Inv X pins σ H s) (t:Nat):Inv X pins σ H { s with toks:=t }:=I.un (h':=s.heap) (t':=t) Un.refl I.hok
theorem Inv.kept {t':Nat} (I:Inv X pins σ H s) (k:∀ b u,s.heap.get? b=some u→h'.get? b=some u):Inv X pins σ H { s with heap:=h',toks:=t' }:=I.un (Un.kept k) (I.hok.kept k)
theorem Inv.laid {a:Addr} {o:HO} {t':Nat} (I:Inv X pins σ H s) (k:∀ b u,s.heap.get? b=some u→h'.get? b=some u) (hp:s.heap.objs.size≤a) (new:cG X.prog X.w (upd H a o) h' a o) :
    Inv X pins σ (upd H a o) { s with heap:=h',toks:=t' }:=I.un (Un.laid k hp (I.hok.fresh hp)) (I.hok.laid k hp new)
theorem Inv.write {x e:Addr} {o:HO} {t':Nat} (I:Inv X pins σ H s) (mu:Mut (H x)) (he:e=x∨H e=some (.own x)) (k:∀ b u,b≠e→s.heap.get? b=some u→h'.get? b=some u) (heo:∃ u,h'.get? e=some u)
    (new:cG X.prog X.w (upd H x o) h' x o):Inv X pins σ (upd H x o) { s with heap:=h',toks:=t' }:=I.un (Un.write mu he k heo) (I.hok.write mu he k heo new)
theorem Inv.weak {σ':List (Option V)} (I:Inv X pins σ H s) (hl:σ'.length=σ.length) (w:∀ (i:Nat) v,σ'[i]?=some (some v)→σ[i]?=some (some v)):Inv X pins σ' H s :=
  ⟨I.ok,I.os,I.bare,I.base,let ⟨m,hn,hl'⟩:=I.loc;⟨m,hn,fun i x v e1 e2 e3=>hl' i x v e1 (w i v e2) e3⟩,I.cell,I.free,I.jO,I.pin,I.hok,hl.trans I.len,I.hnd,I.tup⟩
theorem Inv.a9B {xC:List (Addr×Obj)} (I:Inv X pins σ H s) (h:∀ p∈xC,s.heap.get? p.1=some p.2∧H p.1=none∧p.1≠X.env.locals∧p.1 ∉ X.fs∧∀ v,p.2.data ≠ .cell v):Inv X xC σ H s :=
  ⟨I.ok,I.os,I.bare,I.base,I.loc,I.cell,I.free,I.jO,fun p hp=>(List.mem_append.mp hp).elim (fun z=>I.pin p (List.mem_append_left _ z)) (h p),I.hok,I.len,I.hnd,I.tup⟩
theorem a5N {N:List Str} (hN:N.Nodup) {i j:Nat} {x:Str} (a:N[i]?=some x) (b:N[j]?=some x):i=j:=by
  obtain ⟨h1,e1⟩:=List.getElem?_eq_some_iff.mp a
  obtain ⟨h2,e2⟩:=List.getElem?_eq_some_iff.mp b
  exact (List.getElem_inj hN).mp (e1.trans e2.symm)
theorem a1U {M:Model} {A:Around} {E:Value→Shared→Prop} {i:Nat} {x:Str} {v:V} {u:Value} {Q:Unit→Shared→Prop} (I:Inv X pins σ H s) (hN:X.N.Nodup) (hi:X.N[i]?=some x) (hx:Loc X.env.scope x) (r:RelV v u)
    (h:∀ s',Inv X pins (σ.set i (some v)) H s'→(∃ a,Heap.SameBut a s.heap s'.heap∧(a=X.env.locals∨X.env.cells.lookup x=some a))→Q () s') (hf:X.fn x=true∨X.env.scope.names.lookup x=some .local:=by first | exact .inl rfl | exact .inr rfl | assumption):wpAny M A (storeName X.env x u) Q E s:=by
  obtain ⟨m,hn,hl⟩:=id I.loc
  have hcls:(X.env.scope.kind == .class || (X.env.scope.kind == .module&&X.env.locals != X.env.globals))=false:=by rw [I.ok.kind];rfl
  have hiσ:i < σ.length:=by rw [I.len];exact (List.getElem?_eq_some_iff.mp hi).1
  have cne:=I.cne
  have tracked:∀ {a:Addr} {h':Heap},(∃ o,s.heap.get? a=some o∧H a=none)→Heap.SameBut a s.heap h'→mW X.prog X.w H h':=fun {a h'} ha hs b ob e=>by
    obtain ⟨_,_,hfree⟩:=ha
    refine (I.hok b ob e).stay (fun c w' hc q=>(hs.2 c ?_).trans q) (fun _ q=>q) fun _ _ q=>q
    rintro rfl
    rcases hc with rfl | hc
    · rw [hfree] at e;cases e
    · rw [hfree] at hc;cases hc
  rcases hx with hk | hk
  · refine wpAny_storeName_local hk hn (fun h' hn' hs=>?_) hcls
    obtain ⟨oL,_,_,hoL,_⟩:=id hn
    refine h _ ⟨I.ok,I.os,I.bare,⟨fun b o e n hb hx=>?_,fun b o e n hb hx=>?_,I.base.free,fun b o e hx=>?_,I.base.tups,I.base.cQ,I.base.m7⟩,⟨_,hn',fun j y v' e1 e2 e3=>?_⟩,fun y c e=>?_,I.free,I.jO,fun p hp=>?_,tracked ⟨oL,hoL,I.free⟩ hs,by simpa using I.len,I.hnd,I.tup⟩ ⟨_,hs,.inl rfl⟩
    · exact (hs.2 b (Nat.ne_of_lt (Nat.lt_of_lt_of_le (Heap.lt_size e) I.ok.above))).trans (I.base.keep b o e n hb hx)
    · obtain ⟨sl,e1⟩:=I.base.slot b o e n hb hx
      exact ⟨sl,(hs.2 b (Nat.ne_of_lt (Nat.lt_of_lt_of_le (Heap.lt_size e) I.ok.above))).trans e1⟩
    · obtain ⟨o',e1⟩:=I.base.there b o e hx
      exact ⟨o',(hs.2 b (Nat.ne_of_lt (Nat.lt_of_lt_of_le (Heap.lt_size e) I.ok.above))).trans e1⟩
    · by_cases hj:j=i
      · subst hj
        rw [hi] at e1;cases e1
        rw [List.getElem?_set_self hiσ] at e2
        cases e2
        exact ⟨u,r,.inl ⟨hk,by simp⟩⟩
      · rw [List.getElem?_set_ne (Ne.symm hj)] at e2
        obtain ⟨u',r',q⟩:=hl j y v' e1 e2 e3
        refine ⟨u',r',?_⟩
        rcases q with ⟨k,e⟩ | ⟨k,c,e,z⟩
        · refine .inl ⟨k,?_⟩
          have:y≠x:=fun e=>hj (a5N hN e1 (e ▸ hi))
          simp [this,e]
        · exact .inr ⟨k,c,e,z.sameBut hs (cne y c e)⟩
    · obtain ⟨w',z⟩:=I.cell y c e
      exact ⟨w',z.sameBut hs (cne y c e)⟩
    · obtain ⟨e,n,ne,nf,d⟩:=I.pin p hp
      exact ⟨(hs.2 p.1 ne).trans e,n,ne,nf,d⟩
  · have hfn:X.fn x=true:=by
      rcases hf with z | z
      · exact z
      · rw [z] at hk;cases hk
    obtain ⟨c,hc⟩:=I.ok.has x (.inl hk)
    obtain ⟨w',z⟩:=I.cell x c hc
    refine wpAny_storeName_cell I.ok.kind hk hc z (fun h' hc' hs=>?_)
    obtain ⟨oc,hoc,axE⟩:=id z
    refine h { s with heap:=h' } ⟨I.ok,I.os,I.bare,⟨fun b o e n hb hx=>?_,fun b o e n hb hx=>?_,I.base.free,fun b o e hx=>?_,I.base.tups,I.base.cQ,I.base.m7⟩,⟨m,hn.sameBut hs (Ne.symm (cne x c hc)),fun j y v' e1 e2 e3=>?_⟩,fun y c' e=>?_,I.free,I.jO,fun p hp=>?_,tracked ⟨oc,hoc,I.jO x c hc⟩ hs,by simpa using I.len,I.hnd,I.tup⟩ ⟨c,hs,.inr hc⟩
    · exact (hs.2 b (Nat.ne_of_lt (Nat.lt_of_lt_of_le (Heap.lt_size e) (I.ok.cab x c hfn hc)))).trans (I.base.keep b o e n hb hx)
    · obtain ⟨sl,e1⟩:=I.base.slot b o e n hb hx
      exact ⟨sl,(hs.2 b (Nat.ne_of_lt (Nat.lt_of_lt_of_le (Heap.lt_size e) (I.ok.cab x c hfn hc)))).trans e1⟩
    · obtain ⟨o',e1⟩:=I.base.there b o e hx
      exact ⟨o',(hs.2 b (Nat.ne_of_lt (Nat.lt_of_lt_of_le (Heap.lt_size e) (I.ok.cab x c hfn hc)))).trans e1⟩
    · by_cases hj:j=i
      · subst hj
        rw [hi] at e1;cases e1
        rw [List.getElem?_set_self hiσ] at e2
        cases e2
        exact ⟨u,r,.inr ⟨.inl hk,c,hc,hc'⟩⟩
      · rw [List.getElem?_set_ne (Ne.symm hj)] at e2
        obtain ⟨u',r',q⟩:=hl j y v' e1 e2 e3
        refine ⟨u',r',?_⟩
        rcases q with q | ⟨k,c',e,z'⟩
        · exact .inl q
        · refine .inr ⟨k,c',e,z'.sameBut hs ?_⟩
          rintro rfl
          exact hj (a5N hN e1 (I.ok.inj _ _ _ e hc ▸ hi))
    · by_cases hcc:c'=c
      · subst hcc;exact ⟨_,hc'⟩
      · obtain ⟨w2,z2⟩:=I.cell y c' e
        exact ⟨w2,z2.sameBut hs hcc⟩
    · obtain ⟨e,n,ne,nf,d⟩:=I.pin p hp
      refine ⟨(hs.2 p.1 ?_).trans e,n,ne,nf,d⟩
      intro q
      rw [q,hoc] at e
      have q':oc=p.2:=Option.some.inj e
      exact d w' (by rw [← q'];exact axE)
theorem yQ {M:Model} {A:Around} {E:Value→Shared→Prop} {i:Nat} {x:Str} {v:V} {u:Value} {Q:Unit→Shared→Prop} (I:Inv X pins σ H s) (hN:X.N.Nodup) (hi:X.N[i]?=some x) (hx:Loc X.env.scope x) (r:RelV v u)
    (h:∀ s',Inv X pins (σ.set i (some v)) H s'→Q () s') (hf:X.fn x=true∨X.env.scope.names.lookup x=some .local:=by first | exact .inl rfl | exact .inr rfl | assumption):wpAny M A (storeName X.env x u) Q E s :=
  a1U I hN hi hx r (fun s' I' _=>h s' I') hf
theorem Inv.call' {s':Shared} {ch:List Addr} (I:Inv X pins σ H s) (ho:s'.os=s.os) (u:Un (frs X.stack) ch H H' s.heap s'.heap) (hok:mW X.prog X.w H' s'.heap) (hg:AllBare s'.gens)
    (hch:∀ b∈ch,(b∈X.ex∨X.s₀.heap.objs.size≤b)∧b≠X.env.locals∧(∀ x c,X.env.cells.lookup x=some c→c≠b)∧∀ p∈X.pn++pins,p.1≠b):Inv X pins σ H' s':=by
  obtain ⟨h',g',d',t',o'⟩:=s'
  have e:o'=s.os:=ho
  subst e
  exact I.call (g':=g') (t':=t') (d':=d') u hok hg hch
end
abbrev XK:=Value→Option Addr→Hp→Prop
abbrev St:=List (Option V)
abbrev VK:=V→Hp→Prop
abbrev TE:=St→Hp→VK→Prop
abbrev TT:=St→Hp→(Bool→Hp→Prop)→Prop
abbrev TA:=St→Hp→(List V→Hp→Prop)→Prop
structure Ends where
  nx:St→Hp→Prop
  rt:VK
  bk:St→Hp→Prop:=fun _ _=>False
  ct:St→Hp→Prop:=fun _ _=>False
abbrev TS:=Ends→St→Hp→Prop
def EP (X:Cx) (pins:List (Addr×Obj)) (σ:St) (Q:VK) (u:Value) (s':Shared):Prop:=∃ v H',Inv X pins σ H' s'∧RelV v u∧Q v H'
def TP (X:Cx) (pins:List (Addr×Obj)) (σ:St) (Q:Bool→Hp→Prop) (b:Bool) (s':Shared):Prop:=∃ H',Inv X pins σ H' s'∧Q b H'
def AP (X:Cx) (pins:List (Addr×Obj)) (σ:St) (Q:List V→Hp→Prop) (us:List Value) (s':Shared):Prop:=∃ vs H',Inv X pins σ H' s'∧Vals vs us∧Q vs H'
def SP (X:Cx) (pins:List (Addr×Obj)) (D:Ends) (f:Flow) (s':Shared):Prop :=
  match f with
  | .next=>∃ σ' H',Inv X pins σ' H' s'∧D.nx σ' H'
  | .brk=>∃ σ' H',Inv X pins σ' H' s'∧D.bk σ' H'
  | .cont=>∃ σ' H',Inv X pins σ' H' s'∧D.ct σ' H'
  | .ret u=>∃ v σ' H',Inv X pins σ' H' s'∧RelV v u∧D.rt v H'
class Tk (b:Bool) (s:Shared):Prop where
  pos:b=true→0 < s.toks
class TkI (s:outParam Shared) (s':Shared):Prop where
  imp:0 < s.toks→0 < s'.toks
instance awJ {b:Bool} {s s':Shared} [i:TkI s s'] [j:Tk b s]:Tk b s':=⟨fun z=>i.imp (j.pos z)⟩
instance aA1 {s:Shared}:Tk false s:=⟨fun z=>nomatch z⟩
instance awK {b:Bool} {h:Heap} {g:Array GenState} {d:Drawn} {n:Nat} {os}:Tk b ⟨h,g,d,n+1,os⟩:=⟨fun _=>Nat.succ_pos _⟩
instance awL {b:Bool} {s:Shared} {h:Heap} {g:Array GenState} {d:Drawn} {os} [j:Tk b s]:Tk b ⟨h,g,d,s.toks,os⟩:=⟨j.pos⟩
def PE (X:Cx) (e:Expr) (t:TE):Prop :=
  ∀ (pins:List (Addr×Obj)) (s:Shared) (σ:St) (H:Hp) (Q:VK),Inv X pins σ H s→t σ H Q→[Tk X.need s]→wpAny (model X.prog X.w) X.A (eval e X.env) (EP X pins σ Q) X.xe s
def PT (X:Cx) (e:Expr) (t:TT):Prop :=
  ∀ (pins:List (Addr×Obj)) (s:Shared) (σ:St) (H:Hp) (Q:Bool→Hp→Prop),Inv X pins σ H s→t σ H Q→[Tk X.need s]→wpAny (model X.prog X.w) X.A (isTrue e X.env (eval e X.env)) (TP X pins σ Q) X.xe s
def PW (X:Cx) (e:Expr) (t:TT):Prop :=
  ∀ (whole:Sem Value) (pins:List (Addr×Obj)) (s:Shared) (σ:St) (H:Hp) (Q:Bool→Hp→Prop),Inv X pins σ H s→t σ H Q→[Tk X.need s]→wpAny (model X.prog X.w) X.A (isTrue e X.env whole) (TP X pins σ Q) X.xe s
theorem PW.pt {X:Cx} {e:Expr} {t:TT} (h:PW X e t):PT X e t:=h _
def PA (X:Cx) (es:List Expr) (t:TA):Prop :=
  ∀ (pos:Pos) (pins:List (Addr×Obj)) (s:Shared) (σ:St) (H:Hp) (Q:List V→Hp→Prop),Inv X pins σ H s→t σ H Q→[Tk X.need s]→wpAny (model X.prog X.w) X.A (spliced (backTo pos (starEach es X.env))) (AP X pins σ Q) X.xe s
def PS (X:Cx) (st:Stmt) (t:TS):Prop :=
  ∀ (pins:List (Addr×Obj)) (s:Shared) (σ:St) (H:Hp) (D:Ends),Inv X pins σ H s→t D σ H→[Tk X.need s]→wpAny (model X.prog X.w) X.A (exec st X.env) (SP X pins D) X.xe s
def xQ (X:Cx) (st:List Stmt) (t:TS):Prop :=
  ∀ (pins:List (Addr×Obj)) (s:Shared) (σ:St) (H:Hp) (D:Ends),Inv X pins σ H s→t D σ H→[Tk X.need s]→wpAny (model X.prog X.w) X.A (execs st X.env) (SP X pins D) X.xe s
theorem cD {α:Type} {t:Sem α} {Q Q':α→Shared→Prop} {M:Model} {A:Around} {E:Value→Shared→Prop} {s:Shared} (h:wpAny M A t Q E s) (hQ:∀ a s1,Q a s1→[TkI s s1]→Q' a s1):wpAny M A t Q' E s:=fun Γ p g=>by
  by_cases c:0 < s.toks
  · exact Sem.wp_mono M Γ t (fun a p s' z=>@hQ a s' z.2 ⟨fun _=>z.1⟩) (fun _ _ _ z=>z.2) p s (Sem.wp_toks M Γ 1 t _ _ p s c (h Γ p g))
  · exact Sem.wp_mono M Γ t (fun a p s' z=>@hQ a s' z ⟨fun z=>absurd z c⟩) (fun _ _ _ z=>z) p s (h Γ p g)
end L2
namespace L2
open PySem PySem.Spec PyProof.Rows
section
variable {X:Cx}
theorem bin {a b:Expr} {ta tb:TE} (ha:PE X a ta) (hb:PE X b tb) {pins:List (Addr×Obj)} {s:Shared} {σ:St} {H:Hp} {R:V→V→Hp→Prop} [Tk X.need s] (I:Inv X pins σ H s) (h:ta σ H fun x H1=>tb σ H1 fun y H2=>R x y H2)
    {α:Type} {Q:α→Shared→Prop} {f:Value→Value→Sem α}
    (hf:∀ v u s2 x y H2,Inv X pins σ H2 s2→RelV x v→RelV y u→R x y H2→wpAny (model X.prog X.w) X.A (f v u) Q X.xe s2) :
    wpAny (model X.prog X.w) X.A (eval a X.env) (fun v s₁=>wpAny (model X.prog X.w) X.A (eval b X.env) (fun u s₂=>wpAny (model X.prog X.w) X.A (f v u) Q X.xe s₂) X.xe s₁) X.xe s:=by
  refine cD (ha pins s σ H _ I h) fun v s1 ⟨x,H1,I1,r1,q1⟩=>?_
  refine cD (hb pins s1 σ H1 _ I1 q1) fun u s2 ⟨y,H2,I2,r2,q2⟩=>?_
  exact hf v u s2 x y H2 I2 r1 r2 q2
def amA (i:Nat):TE:=fun σ H Q=>∃ v,σ[i]?=some (some v)∧Q v H
def tC (v:V):TE:=fun _ H Q=>Q v H
theorem a7L {i:Nat} {x:Str} {pos:Pos} (hN:X.N[i]?=some x) (hv:Vis X.env.scope x) (hd:(x == ("__debug__" : Str))=false:=by decide) (hcd:(x == ("__classdict__" : Str))=false:=by decide):PE X (.Name x pos) (amA i):=by
  intro pins s σ H Q I h _tk
  obtain ⟨v,e,h⟩:=h
  obtain ⟨m,hn,hl⟩:=I.loc
  obtain ⟨u,r,l⟩:=hl i x v hN e hv
  have fin:EP X pins σ Q u s:=⟨v,H,I,r,h⟩
  rcases l with ⟨hk,hm⟩ | ⟨hk,c,hc,hcell⟩
  · exact wpAny_Name (wpAny_loadName_local I.ok.kind hk hn hm fin) hd
  · rcases hk with hk | hk
    · exact wpAny_Name (wpAny_loadName_cell I.ok.kind hk hc hcell fin) hd
    · exact wpAny_Name (wpAny_loadName_free I.ok.kind hk hc hcell fin hcd) hd
theorem amB {i j pos}:PE X (.Constant (.int i) j pos) (tC (.int i)):=fun _ _ _ H _ I h=>wpAny_Constant_int ⟨.int i,H,I.tok _,⟨_,rfl⟩,h⟩
theorem arX {b j pos}:PE X (.Constant (.bool b) j pos) (tC (.bl b)):=fun _ _ _ H _ I h=>Constant_bool ⟨.bl b,H,I,rfl,h⟩
theorem amC {j pos}:PE X (.Constant .none j pos) (tC .non):=fun _ _ _ H _ I h=>Constant_none ⟨.non,H,I,rfl,h⟩
theorem amD {x j pos}:PE X (.Constant (.str x) j pos) (tC (.str x)):=fun _ _ _ H _ I h=>Calls.Constant_str ⟨.str x,H,I.tok _,⟨_,rfl⟩,h⟩
def Gl (X:Cx) (x:Str):Prop:=X.env.kindOf x=some .globalImplicit
theorem iZ {E:Value→Shared→Prop} {pins:List (Addr×Obj)} {s:Shared} {σ:St} {H:Hp} {x:Str} {u:Value} {pos:Pos} {Q:Value→Shared→Prop} (I:Inv X pins σ H s) (hg:Gl X x) (hm:X.mg x=some u) (h:Q u s)
    (hd:(x == ("__debug__" : Str))=false:=by decide):wpAny (model X.prog X.w) X.A (eval (.Name x pos) X.env) Q E s :=
  Calls.Name_function_global I.ok.kind hg (Calls.loadGlobal_global (by rw [I.ok.glob];exact I.mod.glob.keeps I.bk) hm h) hd
theorem yR {E:Value→Shared→Prop} {pins:List (Addr×Obj)} {s:Shared} {σ:St} {H:Hp} {x:Str} {u:Value} {pos:Pos} {Q:Value→Shared→Prop} (I:Inv X pins σ H s) (hg:Gl X x) (hm:X.mg x=none) (hv:bootBuiltins x=some u) (h:Q u s)
    (hn:x ≠ "__name__" := by decide) (hd:(x == ("__debug__" : Str))=false:=by decide):wpAny (model X.prog X.w) X.A (eval (.Name x pos) X.env) Q E s:=by
  obtain ⟨mb,h1,h2⟩:=I.mod.blt
  exact Calls.Name_function_global I.ok.kind hg (Calls.loadGlobal_builtin (by rw [I.ok.glob];exact I.mod.glob.keeps I.bk) hm (by rw [I.ok.blt];exact h1.keeps I.bk) ((h2 x hn).trans hv) h) hd
theorem ah6 {x:Str} {v:V} {u:Value} {pos:Pos} (hg:Gl X x) (hm:X.mg x=some u) (r:RelV v u) (hd:(x == ("__debug__" : Str))=false:=by decide):PE X (.Name x pos) (tC v) :=
  fun _ _ _ H _ I h=>iZ I hg hm ⟨v,H,I,r,h⟩ hd
theorem ah7 {x:Str} {v:V} {u:Value} {pos:Pos} (hg:Gl X x) (hm:X.mg x=none) (hv:bootBuiltins x=some u) (r:RelV v u) (hn:x ≠ "__name__" := by decide) (hd:(x == ("__debug__" : Str))=false:=by decide):PE X (.Name x pos) (tC v) :=
  fun _ _ _ H _ I h=>yR I hg hm hv ⟨v,H,I,r,h⟩ hn hd
variable {a b:Expr} {ta tb:TE} {pos:Pos}
def PC (X:Cx) (op:CmpOp) (a b:Expr) (t:TE):Prop :=
  ∀ (pins:List (Addr×Obj)) (s:Shared) (σ:St) (H:Hp) (Q:VK),Inv X pins σ H s→t σ H Q →
    [Tk X.need s]→wpAny (model X.prog X.w) X.A (eval a X.env) (fun v s₁=>wpAny (model X.prog X.w) X.A (eval b X.env) (fun u s₂=>wpAny (model X.prog X.w) X.A (compareOp op v u) (EP X pins σ Q) X.xe s₂) X.xe s₁) X.xe s
theorem acR (b:Expr) {op:CmpOp} (h:op ≠ .In) (h2:op ≠ .NotIn):behindInMarks op b=false:=by
  have e1:(op == CmpOp.In)=false:=by cases op <;> first | rfl | exact absurd rfl h
  have e2:(op == CmpOp.NotIn)=false:=by cases op <;> first | rfl | exact absurd rfl h2
  cases b <;> simp [behindInMarks,e1,e2]
def tB (t:TE):TT:=fun σ H Q=>t σ H fun x H1=>∃ c,x = .bl c∧Q c H1
theorem axF {op:CmpOp} {t:TE} (h:PC X op a b t) (h1:behindInMarks op b=false:=by first | exact acR _ (by decide) (by decide) | rfl):PT X (.Compare a [op] [b] pos) (tB t):=by
  intro pins s σ H Q I hw
  refine wpAny_isTrue_Compare1 (cD (h pins s σ H _ I hw) fun v s1 h1=>cD h1 fun u s2 h2=>cD h2 fun c s3 ⟨x,H1,I1,r1,q1⟩=>?_) h1
  obtain ⟨d,rfl,q⟩:=q1
  cases r1
  exact wpAny_truthy_bool ⟨H1,I1,q⟩
theorem amE {e:Expr} {t:TE} (h:PE X e t) (he:∀ whole,isTrue e X.env whole=(do let v ← whole;standAt e.pos;holding [v] (truthy v)):=by intro _;rfl):PT X e (tB t):=by
  intro pins s σ H Q I hw
  refine isTrue_plain (cD (h pins s σ H _ I hw) fun v s1 ⟨x,H1,I1,r1,q1⟩=>?_) (he _)
  obtain ⟨d,rfl,q⟩:=q1
  cases r1
  exact wpAny_truthy_bool ⟨H1,I1,q⟩
variable {tA tB':TT} {rest:List Expr}
def arY (t u:TT):TT:=fun σ H Q=>t σ H fun c H1=>if c=true then u σ H1 Q else Q false H1
def tOr (t u:TT):TT:=fun σ H Q=>t σ H fun c H1=>if c=true then Q true H1 else u σ H1 Q
def axG (t:TT):TT:=fun σ H Q=>t σ H fun c H1=>Q (!c) H1
theorem ah8 (ha:PT X a tA):PW X (.BoolOp .And [a] pos) tA:=by
  intro wh pins s σ H Q I h
  refine isTrue_and (cD (ha pins s σ H Q I h) fun c s1 e=>?_)
  intro arZ
  cases c with
  | true=>exact isTrue_and_nil e
  | false=>exact e
theorem amF (ha:PT X a tA):PW X (.BoolOp .Or [a] pos) tA:=by
  intro wh pins s σ H Q I h
  refine isTrue_or (cD (ha pins s σ H Q I h) fun c s1 e=>?_)
  intro aBI
  cases c with
  | false=>exact isTrue_or_nil e
  | true=>exact e
theorem amG (ha:PT X a tA) (hb:PW X (.BoolOp .And (b :: rest) pos) tB'):PW X (.BoolOp .And (a :: b :: rest) pos) (arY tA tB'):=by
  intro wh pins s σ H Q I h
  refine isTrue_and (cD (ha pins s σ H _ I h) fun c s1 ⟨H1,I1,q1⟩=>?_)
  cases c with
  | true=>exact hb wh pins s1 σ H1 Q I1 q1
  | false=>exact ⟨H1,I1,q1⟩
theorem as3 (ha:PT X a tA) (hb:PW X (.BoolOp .Or (b :: rest) pos) tB'):PW X (.BoolOp .Or (a :: b :: rest) pos) (tOr tA tB'):=by
  intro wh pins s σ H Q I h
  refine isTrue_or (cD (ha pins s σ H _ I h) fun c s1 ⟨H1,I1,q1⟩=>?_)
  cases c with
  | true=>exact ⟨H1,I1,q1⟩
  | false=>exact hb wh pins s1 σ H1 Q I1 q1
theorem amH (ha:PT X a tA):PT X (.UnaryOp .Not a pos) (axG tA):=by
  intro pins s σ H Q I h _tk
  exact isTrue_not (ha pins s σ H (fun c H1=>Q (!c) H1) I h)
def as4 (ta tb:TE):TE:=fun σ H Q=>ta σ H fun x H1=>∃ c,x = .bl c∧if c=true then tb σ H1 Q else Q (.bl false) H1
def axH (ta tb:TE):TE:=fun σ H Q=>ta σ H fun x H1=>∃ c,x = .bl c∧if c=true then Q (.bl true) H1 else tb σ H1 Q
theorem amI {op} {t:TE} (h:PE X a t):PE X (.BoolOp op [a] pos) t:=fun pins s σ H Q I hw=>BoolOp_one (h pins s σ H Q I hw)
theorem amJ (ha:PE X a ta) (hb:PE X (.BoolOp .And (b :: rest) pos) tb):PE X (.BoolOp .And (a :: b :: rest) pos) (as4 ta tb):=by
  intro pins s σ H Q I h _tk
  refine BoolOp_and (cD (ha pins s σ H _ I h) fun v s1 ⟨x,H1,I1,r1,q1⟩=>?_)
  obtain ⟨c,rfl,q1⟩:=q1
  cases r1
  refine wpAny_truthy_bool ?_
  cases c with
  | true=>exact hb pins s1 σ H1 Q I1 q1
  | false=>exact ⟨.bl false,H1,I1,rfl,q1⟩
theorem as5 (ha:PE X a ta) (hb:PE X (.BoolOp .Or (b :: rest) pos) tb):PE X (.BoolOp .Or (a :: b :: rest) pos) (axH ta tb):=by
  intro pins s σ H Q I h _tk
  refine BoolOp_or (cD (ha pins s σ H _ I h) fun v s1 ⟨x,H1,I1,r1,q1⟩=>?_)
  obtain ⟨c,rfl,q1⟩:=q1
  cases r1
  refine wpAny_truthy_bool ?_
  cases c with
  | false=>exact hb pins s1 σ H1 Q I1 q1
  | true=>exact ⟨.bl true,H1,I1,rfl,q1⟩
def tIf (t:TT) (ta tb:TE):TE:=fun σ H Q=>t σ H fun c H1=>if c=true then ta σ H1 Q else tb σ H1 Q
theorem acS {c:Expr} (hc:PT X c tA) (ha:PE X a ta) (hb:PE X b tb):PE X (.IfExp c a b pos) (tIf tA ta tb):=by
  intro pins s σ H Q I h _tk
  refine wpAny_IfExp (cD (hc pins s σ H _ I h) fun d s1 ⟨H1,I1,q1⟩=>?_)
  cases d with
  | true=>exact ha pins s1 σ H1 Q I1 q1
  | false=>exact hb pins s1 σ H1 Q I1 q1
end
end L2
namespace L2
open PySem PySem.Spec PyProof.Rows
def tE (K:PySem.W.Frag) (H:Hp) (a:Addr) (xs:List V):Prop :=
  Rd H a (.lst xs) ∨
    ∃ (o:Obj) (its:Array Value) (n:Nat),K.lookup a=some o∧o.cls = .type "list" ∧ o.dict=none∧o.data = .seq its n∧its.size≤sizeLine∧Vals xs its.toList
def pF (K:PySem.W.Frag) (H:Hp) (a:Addr) (xs:List V):Prop :=
  Rd H a (.tup xs) ∨
    ∃ (o:Obj) (its:Array Value) (n:Nat),K.lookup a=some o∧o.cls = .type "tuple" ∧ o.dict=none∧o.data = .seq its n∧its.size≤sizeLine∧Vals xs its.toList
def axI:Value→Option V
  | .none=>some .non
  | .bool b=>some (.bl b)
  | .int i _=>some (.int i)
  | .str x _=>some (.str x)
  | .bytes b _=>some (.byt b)
  | .float b _=>some (.flt b)
  | .ref a=>some (.ref a)
  | .type n=>some (.ty n)
  | _=>none
theorem RelV.abs {x:V} {u:Value} (r:RelV x u):axI u=some x:=by
  cases x with
  | non=>cases r;rfl
  | bl _=>cases r;rfl
  | int _=>obtain ⟨t,rfl⟩:=r;rfl
  | str _=>obtain ⟨t,rfl⟩:=r;rfl
  | byt _=>obtain ⟨t,rfl⟩:=r;rfl
  | flt _=>obtain ⟨t,rfl⟩:=r;rfl
  | ref _=>cases r;rfl
  | ty _=>cases r;rfl
theorem RelV.inj {x y:V} {u:Value} (r:RelV x u) (q:RelV y u):x=y:=Option.some.inj (r.abs.symm.trans q.abs)
theorem Vals.inj:∀ {xs ys:List V} {us:List Value},Vals xs us→Vals ys us→xs=ys
  | _,_,_,.nil,.nil=>rfl
  | _,_,_,.cons r t,.cons r' t'=>by rw [r.inj r',Vals.inj t t']
section
variable {X:Cx} {pins:List (Addr×Obj)} {σ:St} {H:Hp} {s:Shared} {a:Addr} {xs ys:List V}
theorem tE.of {K:PySem.W.Frag} (h:H a=some (.lst xs)):tE K H a xs := .inl (.inl h)
theorem pF.of {K:PySem.W.Frag} (h:H a=some (.tup xs)):pF K H a xs := .inl (.inl h)
theorem Inv.list (I:Inv X pins σ H s) (h:tE X.K H a xs):∃ its:List Value,Vals xs its∧PlainL s.heap a its.toArray∧xs.length≤sizeLine:=by
  rcases h with h | ⟨o,its,n,hk,hc,hd,hs,hz,r⟩
  · obtain ⟨z,its,n,r,e⟩:=h.ok I.hok
    exact ⟨its,r,⟨_,n,e,rfl,rfl,rfl⟩,z⟩
  · refine ⟨its.toList,r,⟨o,n,I.yP a o hk,hc,hd,by simpa using hs⟩,?_⟩
    have e:=r.length
    simp only [Array.length_toList] at e
    omega
theorem Inv.tuple (I:Inv X pins σ H s) (h:pF X.K H a xs):∃ its:List Value,Vals xs its∧IsTup s.heap a its.toArray∧xs.length≤sizeLine:=by
  rcases h with h | ⟨o,its,n,hk,hc,hd,hs,hz,r⟩
  · obtain ⟨z,its,r,p⟩:=h.ok I.hok
    exact ⟨its,r,p,z⟩
  · refine ⟨its.toList,r,⟨o,I.yP a o hk,hc,n,by simpa using hs⟩,?_⟩
    have e:=r.length
    simp only [Array.length_toList] at e
    omega
theorem Inv.acT (I:Inv X pins σ H s) (h:tE X.K H a xs) (h':tE X.K H a ys):xs=ys:=by
  obtain ⟨its,r,⟨o,n,e,_,_,d⟩,_⟩:=I.list h
  obtain ⟨its',r',⟨o',n',e',_,_,d'⟩,_⟩:=I.list h'
  rw [e] at e';cases e'
  rw [d] at d'
  injection d' with d1 _
  have:its=its':=by simpa using congrArg Array.toList d1
  subst this
  exact r.inj r'
theorem Inv.vZ (I:Inv X pins σ H s) (h:pF X.K H a xs) (h':pF X.K H a ys):xs=ys:=by
  obtain ⟨its,r,⟨o,e,_,n,d⟩,_⟩:=I.tuple h
  obtain ⟨its',r',⟨o',e',_,n',d'⟩,_⟩:=I.tuple h'
  rw [e] at e';cases e'
  rw [d] at d'
  injection d' with d1 _
  have:its=its':=by simpa using congrArg Array.toList d1
  subst this
  exact r.inj r'
end
abbrev Cx.wish (X:Cx) (E:Value→Shared→Prop):Cx:={ X with xe:=E }
abbrev Cx.nox (X:Cx):Cx:=X.wish fun _ _=>False
theorem Cx.Ok.wish {X:Cx} (ok:X.Ok) (E:Value→Shared→Prop):(X.wish E).Ok :=
  ⟨ok.mod,ok.kind,ok.glob,ok.blt,ok.above,ok.inj,ok.has,ok.cab,ok.hd,ok.frames,ok.stk,ok.exf,ok.bs,ok.bsz,ok.a5M,ok.a7I,ok.mY,ok.frf⟩
theorem Cx.Ok.m8 {X:Cx} {E:Value→Shared→Prop} (ok:(X.wish E).Ok):X.Ok :=
  ⟨ok.mod,ok.kind,ok.glob,ok.blt,ok.above,ok.inj,ok.has,ok.cab,ok.hd,ok.frames,ok.stk,ok.exf,ok.bs,ok.bsz,ok.a5M,ok.a7I,ok.mY,ok.frf⟩
section
variable {X:Cx} {pins:List (Addr×Obj)} {σ:St} {H:Hp} {s:Shared} {E:Value→Shared→Prop}
theorem Inv.wish (I:Inv X pins σ H s) (E:Value→Shared→Prop):Inv (X.wish E) pins σ H s:=⟨I.ok.wish E,I.os,I.bare,I.base,I.loc,I.cell,I.free,I.jO,I.pin,I.hok,I.len,I.hnd,I.tup⟩
theorem Inv.m8 (I:Inv (X.wish E) pins σ H s):Inv X pins σ H s:=⟨I.ok.m8,I.os,I.bare,I.base,I.loc,I.cell,I.free,I.jO,I.pin,I.hok,I.len,I.hnd,I.tup⟩
theorem SP.m8 {D:Ends} {f:Flow} {s':Shared} (h:SP (X.wish E) pins D f s'):SP X pins D f s':=by
  cases f with
  | next=>obtain ⟨σ',H',I,q⟩:=h;exact ⟨σ',H',I.m8,q⟩
  | brk=>obtain ⟨σ',H',I,q⟩:=h;exact ⟨σ',H',I.m8,q⟩
  | cont=>obtain ⟨σ',H',I,q⟩:=h;exact ⟨σ',H',I.m8,q⟩
  | ret u=>obtain ⟨v,σ',H',I,r,q⟩:=h;exact ⟨v,σ',H',I.m8,r,q⟩
theorem PE.nox {e:Expr} {t:TE} (h:PE X.nox e t):PE X e t:=fun pins s σ H Q I hw =>
  wpAny_mono (h pins s σ H Q (I.wish _) hw) (fun _ _ ⟨v,H',I',r,q⟩=>⟨v,H',I'.m8,r,q⟩) fun _ _ z=>False.elim z
theorem PT.nox {e:Expr} {t:TT} (h:PT X.nox e t):PT X e t:=fun pins s σ H Q I hw =>
  wpAny_mono (h pins s σ H Q (I.wish _) hw) (fun _ _ ⟨H',I',q⟩=>⟨H',I'.m8,q⟩) fun _ _ z=>False.elim z
theorem xQ.nox {st:List Stmt} {t:TS} (h:xQ X.nox st t):xQ X st t:=fun pins s σ H D I hw =>
  wpAny_mono (h pins s σ H D (I.wish _) hw) (fun _ _ q=>q.m8) fun _ _ z=>False.elim z
end
section
variable {X:Cx} {st:Stmt} {rest:List Stmt} {t u:TS} {e:Expr} {te:TE} {pos:Pos}
def akU:TS:=fun D σ H=>D.nx σ H
def amK (t u:TS):TS:=fun D σ H=>t { D with nx:=u D } σ H
theorem ah9:xQ X [] akU:=fun _ _ σ H _ I h=>wpAny_execs_nil ⟨σ,H,I,h⟩
theorem acU (h1:PS X st t) (h2:xQ X rest u):xQ X (st :: rest) (amK t u):=by
  intro pins s σ H D I h _tk
  refine wpAny_execs_cons (cD (h1 pins s σ H { D with nx:=u D } I h) fun f s1 q=>?_)
  intro aBK
  cases f with
  | next =>
    obtain ⟨σ',H',I',q⟩:=q
    exact h2 pins s1 σ' H' D I' q
  | ret v=>exact q
  | brk=>exact q
  | cont=>exact q
theorem a3H (h1:PS X st t):xQ X [st] t:=by
  intro pins s σ H D I h _tk
  refine wpAny_execs_cons (cD (h1 pins s σ H D I h) fun f s1 q=>?_)
  intro aBL
  cases f with
  | next=>exact wpAny_execs_nil q
  | ret v=>exact q
  | brk=>exact q
  | cont=>exact q
theorem ahA:PS X (.Pass pos) akU:=fun _ _ σ H _ I h=>wpAny_Pass ⟨σ,H,I,h⟩
theorem Inv.quiet {pins:List (Addr×Obj)} {σ:St} {H:Hp} {s:Shared} (I:Inv X pins σ H s):interactive X.env=false:=by simp [interactive,I.ok.kind]
def as6 (te:TE):TS:=fun D σ H=>te σ H fun _ H1=>D.nx σ H1
theorem ahB (he:PE X e te) (hs:swapsWith e none pos.line X.env=pure false:=by rfl):PS X (.Expr e pos) (as6 te):=by
  intro pins s σ H D I h _tk
  exact wpAny_Expr_any (cD (he pins s σ H _ I h) fun v s1 ⟨x,H1,I1,r1,q1⟩=>⟨σ,H1,I1,q1⟩) I.quiet hs
def axJ (te:TE):TS:=fun D σ H=>te σ H D.rt
theorem acV (he:PE X e te):PS X (.Return (some e) pos) (axJ te):=by
  intro pins s σ H D I h _tk
  exact wpAny_Return_some (cD (he pins s σ H _ I h) fun v s1 ⟨x,H1,I1,r1,q1⟩=>⟨x,σ,H1,I1,r1,q1⟩)
def axK (c:TT) (t u:TS):TS:=fun D σ H=>c σ H fun b H1=>if b=true then t D σ H1 else u D σ H1
theorem as7 {c:Expr} {a b:List Stmt} {tc:TT} (hc:PT X c tc) (ha:xQ X a t) (hb:xQ X b u):PS X (.If c a b pos) (axK tc t u):=by
  intro pins s σ H D I h _tk
  refine wpAny_If (cD (hc pins s σ H _ I h) fun d s1 ⟨H1,I1,q1⟩=>?_)
  cases d with
  | true=>exact ha pins s1 σ H1 D I1 q1
  | false=>exact hb pins s1 σ H1 D I1 q1
end
abbrev TG:=V→St→Hp→(St→Hp→Prop)→Prop
abbrev TGs:=List V→St→Hp→(St→Hp→Prop)→Prop
def PG (X:Cx) (target:Expr) (t:TG):Prop :=
  ∀ (pins:List (Addr×Obj)) (s:Shared) (σ:St) (H:Hp) (v:V) (u:Value) (Q:St→Hp→Prop),Inv X pins σ H s→RelV v u→t v σ H Q →
    [Tk X.need s]→wpAny (model X.prog X.w) X.A (assign target X.env u) (fun _ s'=>∃ σ' H',Inv X pins σ' H' s'∧Q σ' H') X.xe s
def PGs (X:Cx) (ts:List Expr) (t:TGs):Prop :=
  ∀ (pins:List (Addr×Obj)) (s:Shared) (σ:St) (H:Hp) (vs:List V) (us:List Value) (Q:St→Hp→Prop),Inv X pins σ H s→Vals vs us→t vs σ H Q →
    [Tk X.need s]→wpAny (model X.prog X.w) X.A (assignInOrder ((assignEach ts X.env).map (·.2)) us) (fun _ s'=>∃ σ' H',Inv X pins σ' H' s'∧Q σ' H') X.xe s
section
variable {X:Cx} {pos:Pos}
def a9C (i:Nat):TG:=fun v σ H Q=>Q (σ.set i (some v)) H
theorem a3I {i:Nat} {x:Str} (hN:X.N.Nodup) (hi:X.N[i]?=some x) (hx:Loc X.env.scope x) (hf:X.fn x=true∨X.env.scope.names.lookup x=some .local:=by first | exact .inl rfl | exact .inr rfl | assumption):PG X (.Name x pos) (a9C i):=by
  intro pins s σ H v u Q I r h
  exact wpAny_assign_Name (yQ I hN hi hx r (fun s' I'=>⟨_,H,I',h⟩) hf)
def as9:TGs:=fun vs σ H Q=>vs=[]∧Q σ H
def akW (t:TG) (u:TGs):TGs:=fun vs σ H Q=>∃ v r,vs=v :: r∧t v σ H fun σ' H'=>u r σ' H' Q
theorem ahC:PGs X [] as9:=by
  intro pins s σ H vs us Q I r h
  obtain ⟨e,h⟩:=h
  subst e
  cases r
  exact assignInOrder_nil ⟨σ,H,I,h⟩
theorem acW {e:Expr} {es:List Expr} {t:TG} {u:TGs} (h1:PG X e t) (h2:PGs X es u)
    (hs:(assignEach (e :: es) X.env).map (·.2)=assign e X.env :: (assignEach es X.env).map (·.2):=by rfl):PGs X (e :: es) (akW t u):=by
  intro pins s σ H vs us Q I r h
  obtain ⟨v,vr,e1,h⟩:=h
  subst e1
  cases r with
  | cons r rr =>
    rw [hs]
    refine assignInOrder_cons (cD (h1 pins s σ H _ _ _ I r h) fun _ s1 ⟨σ1,H1,I1,q1⟩=>?_)
    exact h2 pins s1 σ1 H1 _ _ Q I1 rr q1
def axL (K:PySem.W.Frag) (n:Nat) (t:TGs):TG:=fun v σ H Q=>∃ a xs,v = .ref a∧pF K H a xs∧xs.length=n∧t xs σ H Q
theorem acX {es:List Expr} {k:Nat} {t:TGs} {n:Nat} (hc:X.calm=true) (h:PGs X es t)
    (hn:(assignEach es X.env).length=n:=by rfl) (hst:(assignEach es X.env).findIdx? (·.1)=none:=by rfl):PG X (.Tuple es k pos) (axL X.K n t):=by
  intro pins s σ H v u Q I r hw
  obtain ⟨a,xs,e1,hq,hl,hw⟩:=hw
  subst e1
  cases r
  obtain ⟨its,rv,ht,hz⟩:=I.tuple hq
  refine assign_Tuple_tuple (I.ok.hd hc) ht (by simp [hn,← hl,rv.length]) hst fun h' hx=>?_
  have I1:Inv X pins σ H { s with heap:=h' }:=I.kept (t':=s.toks) fun b o e=>hx b o (Nat.ne_of_lt (Heap.lt_size e)) e
  exact h pins _ σ H xs _ Q I1 (by simpa using rv) hw
def asA (te:TE) (g:TG):TS:=fun D σ H=>te σ H fun x H1=>g x σ H1 D.nx
theorem amL {tg e:Expr} {te:TE} {g:TG} (he:PE X e te) (hg:PG X tg g) (hs:swapsWithSole [tg] e pos.line X.env=pure false:=by rfl) (hw:swappedStores [tg] e X.env=pure none:=by rfl)
    (h1:(assignEach [tg] X.env).map (·.2)=[assign tg X.env]:=by rfl):PS X (.Assign [tg] e pos) (asA te g):=by
  intro pins s σ H D I h _tk
  refine wpAny_Assign_stores (cD (he pins s σ H _ I h) fun v s1 ⟨x,H1,I1,r1,q1⟩=>?_) hs hw
  rw [h1]
  exact cD (hg pins s1 σ H1 x v _ I1 r1 q1) fun _ s2 q=>q
theorem amM {i:Nat} {x:Str} {e:Expr} {te:TE} {pos':Pos} (hN:X.N.Nodup) (hi:X.N[i]?=some x) (hx:Loc X.env.scope x) (he:PE X e te) (hs:swapsWith e (some (.Name x pos')) pos.line X.env=pure false:=by rfl) (hf:X.fn x=true∨X.env.scope.names.lookup x=some .local:=by first | exact .inl rfl | exact .inr rfl | assumption) :
    PS X (.Assign [.Name x pos'] e pos) (asA te (a9C i)):=by
  intro pins s σ H D I h _tk
  refine wpAny_Assign_Name (cD (he pins s σ H _ I h) fun v s1 ⟨y,H1,I1,r1,q1⟩=>?_) hs
  exact yQ I1 hN hi hx r1 (fun s2 I2=>⟨_,H1,I2,q1⟩) hf
end
section
variable {X:Cx} {pos:Pos}
def amN (c:TT) (tb:TS):TS:=fun D σ H=>∃ W:Nat→St→Hp→Prop,(∃ m,W m σ H)∧∀ m σ H,W m σ H →
  c σ H fun b H1=>if b=true then ∃ N:St→Hp→Prop,(∀ σ' H',N σ' H'→∃ m',m' < m∧W m' σ' H')∧tb { D with nx:=N,ct:=N,bk:=D.nx } σ H1 else D.nx σ H1
theorem acY {c:Expr} {body:List Stmt} {tc:TT} {tb:TS} (hp:PassesOwn (model X.prog X.w) X.A X.env X.xe) (hc:PT X c tc) (hb:xQ X body tb):PS X (.While c body [] pos) (amN tc tb):=by
  intro pins s σ H D I h _tk
  obtain ⟨W,⟨m0,w0⟩,turn⟩:=h
  refine wpAny_While (codeAny_whileLoop (fun n s'=>Tk X.need s'∧∃ σ' H',Inv X pins σ' H' s'∧W n σ' H') ?_ m0 ⟨inferInstance,σ,H,I,w0⟩)
  rintro n s1 ⟨tk1,σ1,H1,I1,w1⟩
  refine wpAny_passesOwn hp (cD (hc pins s1 σ1 H1 _ I1 (turn n σ1 H1 w1)) fun b s2 ⟨H2,I2,q2⟩=>?_)
  cases b with
  | true =>
    obtain ⟨N,hN,q2⟩:=q2
    rw [if_pos rfl]
    refine wpAny_passesOwn hp (cD (hb pins s2 σ1 H2 _ I2 q2) fun f s3 q3=>?_)
    intro aBM
    cases f with
    | next =>
      obtain ⟨σ3,H3,I3,n3⟩:=q3
      obtain ⟨m',hm,w3⟩:=hN σ3 H3 n3
      exact ⟨m',hm,inferInstance,σ3,H3,I3,w3⟩
    | cont =>
      obtain ⟨σ3,H3,I3,n3⟩:=q3
      obtain ⟨m',hm,w3⟩:=hN σ3 H3 n3
      exact ⟨m',hm,inferInstance,σ3,H3,I3,w3⟩
    | brk=>exact q3
    | ret v=>exact q3
  | false =>
    rw [if_neg Bool.false_ne_true]
    exact wpAny_execs_nil ⟨σ1,H2,I2,q2⟩
end
structure It where
  go:Nat→Hp→Prop
  yld:Nat→Hp→V→Hp→Prop
  stop:Nat→Hp→Prop
def jP (X:Cx) (pins:List (Addr×Obj)) (H:Hp) (b:Addr):Prop :=
  H b=none∧b≠X.env.locals∧b ∉ X.fs∧(b∈X.ex∨X.s₀.heap.objs.size≤b)∧(∀ x c,X.env.cells.lookup x=some c→c≠b)∧∀ p∈X.pn++pins,p.1≠b
theorem Inv.yS {X:Cx} {pins:List (Addr×Obj)} {σ:St} {H H':Hp} {s:Shared} {b:Addr} (I:Inv X pins σ H s) (hb:s.heap.objs.size≤b) (hn:H' b=none):jP X pins H' b:=by
  refine ⟨hn,Nat.ne_of_gt (Nat.lt_of_lt_of_le I.lt hb),I.axD hb,.inr (Nat.le_trans I.sz hb),fun x c e z=>?_,fun p hp z=>?_⟩
  · obtain ⟨v,q⟩:=I.cell x c e
    exact absurd (Nat.lt_of_lt_of_le q.lt (by rw [z];exact hb)) (Nat.lt_irrefl _)
  · exact absurd (Nat.lt_of_lt_of_le (Heap.lt_size (I.pin p hp).1) (by rw [z];exact hb)) (Nat.lt_irrefl _)
structure Turn (cm:Bool) (tl:List (Addr×List V)) (P:Program) (w:World) (K:PySem.W.Frag) (tg:Expr) (J:It) (fp:List Addr) (it:Addr) (tn:Nat→Heap→Prop):Prop where
  mem:it∈fp
  obj:∀ i h,tn i h→∀ b∈fp,∃ o,h.get? b=some o∧∀ v,o.data ≠ .cell v
  keep:∀ i h h',tn i h→(∀ b∈fp,∀ o,h.get? b=some o→h'.get? b=some o)→tn i h'
  item:∀ (X:Cx),X.prog=P→X.w=w→X.K=K→(cm=true→X.calm=true)→(∀ p∈tl,p∈X.tp)→∀ (i:Nat) (pins:List (Addr×Obj)) (s:Shared) (σ:St) (H:Hp) (E:Value→Shared→Prop),Inv X pins σ H s→(∀ b∈fp,jP X pins H b)→tn i s.heap→J.go i H →
    wpAny (model P w) X.A (pyNext (.ref it)) (fun r s1=>∃ u,r=some u ∧
      wpAny (model P w) X.A (letOwnedTupleGo tg (.ref it) u) (fun _ s2=>∃ x H',Inv X pins σ H' s2∧RelV x u∧J.yld i H x H'∧tn (i+1) s2.heap∧∀ b∈fp,H' b=none) E s1) E s
  done:∀ (X:Cx),X.prog=P→X.w=w→X.K=K→(cm=true→X.calm=true)→(∀ p∈tl,p∈X.tp)→∀ (i:Nat) (pins:List (Addr×Obj)) (s:Shared) (σ:St) (H:Hp) (E:Value→Shared→Prop),Inv X pins σ H s→(∀ b∈fp,jP X pins H b)→tn i s.heap→J.stop i H →
    wpAny (model P w) X.A (pyNext (.ref it)) (fun r s1=>r=none∧Inv X pins σ H s1) E s
  self:∀ (A:Around) (i:Nat) (s:Shared) (Q:Value→Shared→Prop) (E:Value→Shared→Prop),tn i s.heap→Q (.ref it) s→wpAny (model P w) A (pyIter (.ref it)) Q E s
abbrev TI:=St→Hp→(It→Hp→Prop)→Prop
def PIE (X:Cx) (pins:List (Addr×Obj)) (σ:St) (tg:Expr) (R:It→Hp→Prop) (itv:Value) (s2:Shared):Prop :=
  ∃ (it:Addr) (fp:List Addr) (tn:Nat→Heap→Prop) (J:It) (H':Hp),itv = .ref it∧Inv X pins σ H' s2∧Turn X.calm X.tp X.prog X.w X.K tg J fp it tn∧tn 0 s2.heap∧(∀ b∈fp,jP X pins H' b)∧R J H'
def PI (X:Cx) (tg iter:Expr) (wi:TI):Prop :=
  ∀ (pins:List (Addr×Obj)) (s:Shared) (σ:St) (H:Hp) (R:It→Hp→Prop),Inv X pins σ H s→wi σ H R →
    [Tk X.need s]→wpAny (model X.prog X.w) X.A (eval iter X.env) (fun v s1=>wpAny (model X.prog X.w) X.A (pyIter v) (PIE X pins σ tg R) X.xe s1) X.xe s
theorem a5O {M:Model} {A:Around} {E:Value→Shared→Prop} {s:Shared} {tg:Expr} {it:Addr} {u:Value} {o:Obj} {n:String} {vs:Array Value} {Q:Unit→Shared→Prop} (ho:s.heap.get? it=some o) (hc:o.cls = .type n) (hd:o.data = .fields vs)
    (hn:["enumerate", "zip", "dict_itemiterator", "dict_reverseitemiterator", "odict_iterator", "itertools.zip_longest", "itertools.pairwise"].contains n=false) (hQ:Q () s):wpAny M A (letOwnedTupleGo tg (.ref it) u) Q E s:=by
  unfold letOwnedTupleGo
  cases tg <;> first
    | exact wpAny_pure hQ
    | (cases u <;> first
        | exact wpAny_pure hQ
        | (refine wpAny_bind (wpAny_load ho ?_)
           rw [hc,hd]
           show wpAny M A (if (["enumerate", "zip", "dict_itemiterator", "dict_reverseitemiterator", "odict_iterator", "itertools.zip_longest", "itertools.pairwise"].contains n&&vs[0]? == some (rawInt _))=true then _ else _) Q E s
           rw [if_neg (by intro h;rw [hn,Bool.false_and] at h;cases h)]
           exact wpAny_pure hQ))
def Itl (K:PySem.W.Frag) (a:Addr):It :=
  ⟨fun i H=>∃ xs x,tE K H a xs∧xs[i]?=some x,fun i H x H'=>H'=H∧∀ xs,tE K H a xs→xs[i]?=some x,fun i H=>∃ xs,tE K H a xs∧xs.length≤i⟩
def Itt (K:PySem.W.Frag) (a:Addr):It :=
  ⟨fun i H=>∃ xs x,pF K H a xs∧xs[i]?=some x,fun i H x H'=>H'=H∧∀ xs,pF K H a xs→xs[i]?=some x,fun i H=>∃ xs,pF K H a xs∧xs.length≤i⟩
def Itr (lo:Int) (n:Nat):It:=⟨fun i _=>i < n,fun i H x H'=>H'=H∧x = .int (lo+i),fun i _=>n≤i⟩
theorem a1V {cm:Bool} {tl:List (Addr×List V)} {P:Program} {w:World} {K:PySem.W.Frag} {tg:Expr} (a it:Addr):Turn cm tl P w K tg (Itl K a) [it] it (fun i h=>h.IsListIter it a i) where
  mem:=by simp
  obj:=fun i h st b hb=>by
    have e:b=it:=by simpa using hb
    subst e
    obtain ⟨o,e,c,d⟩:=st
    exact ⟨o,e,fun v z=>by rw [d] at z;cases z⟩
  keep:=fun i h h' st k=>st.at fun o e=>k it (by simp) o e
  item:=by
    intro X hP hw hK hc ht i pins s σ H E I hf st hg
    subst hP hw hK
    obtain ⟨xs,x,hq,hx⟩:=hg
    obtain ⟨its,rv,p,hz⟩:=I.list hq
    obtain ⟨u,hu,ru⟩:=rv.get hx
    obtain ⟨f0,f1,f2,f3,f4,f5⟩:=hf it (by simp)
    refine wpAny_pyNext_list_item st p.isList (x:=u) (by simpa using hu) fun h' st' sb=>?_
    have I1:Inv X pins σ H { s with heap:=h' }:=I.turned (t':=s.toks) (fun b o hb e=>(sb.2 b hb).trans e) f0 f1 f3 f4 f5
    obtain ⟨o,e,c,d⟩:=id st'
    exact ⟨u,rfl,a5O (s:={ s with heap:=h' }) e c d (by decide) ⟨x,H,I1,ru,⟨rfl,fun ys hy=>by rw [I.acT hy hq];exact hx⟩,st',fun b hb=>(hf b hb).1⟩⟩
  done:=by
    intro X hP hw hK hc ht i pins s σ H E I hf st hg
    subst hP hw hK
    obtain ⟨xs,hq,hx⟩:=hg
    obtain ⟨its,rv,p,hz⟩:=I.list hq
    obtain ⟨f0,f1,f2,f3,f4,f5⟩:=hf it (by simp)
    have hl:=rv.length
    exact ab6 (I.hnd.heap I.hok) st p.isList (by simp;omega) fun h' eb=>⟨rfl,I.turned (t':=s.toks) (fun b o hb e=>eb b o hb e) f0 f1 f3 f4 f5⟩
  self:=fun _ _ _ _ _ st h=>wpAny_pyIter_listiter st h
theorem yU {cm:Bool} {tl:List (Addr×List V)} {P:Program} {w:World} {K:PySem.W.Frag} {tg:Expr} (a it:Addr):Turn cm tl P w K tg (Itt K a) [it] it (fun i h=>h.IsTupleIter it a i) where
  mem:=by simp
  obj:=fun i h st b hb=>by
    have e:b=it:=by simpa using hb
    subst e
    obtain ⟨o,e,c,d⟩:=st
    exact ⟨o,e,fun v z=>by rw [d] at z;cases z⟩
  keep:=fun i h h' st k=>st.at fun o e=>k it (by simp) o e
  item:=by
    intro X hP hw hK hc ht i pins s σ H E I hf st hg
    subst hP hw hK
    obtain ⟨xs,x,hq,hx⟩:=hg
    obtain ⟨its,rv,p,hz⟩:=I.tuple hq
    obtain ⟨u,hu,ru⟩:=rv.get hx
    obtain ⟨f0,f1,f2,f3,f4,f5⟩:=hf it (by simp)
    refine wpAny_pyNext_tuple_item st (show s.heap.IsTuple a its.toArray from p) (x:=u) (by simpa using hu) fun h' st' sb=>?_
    have I1:Inv X pins σ H { s with heap:=h' }:=I.turned (t':=s.toks) (fun b o hb e=>(sb.2 b hb).trans e) f0 f1 f3 f4 f5
    obtain ⟨o,e,c,d⟩:=id st'
    exact ⟨u,rfl,a5O (s:={ s with heap:=h' }) e c d (by decide) ⟨x,H,I1,ru,⟨rfl,fun ys hy=>by rw [I.vZ hy hq];exact hx⟩,st',fun b hb=>(hf b hb).1⟩⟩
  done:=by
    intro X hP hw hK hc ht i pins s σ H E I hf st hg
    subst hP hw hK
    obtain ⟨xs,hq,hx⟩:=hg
    obtain ⟨its,rv,p,hz⟩:=I.tuple hq
    obtain ⟨f0,f1,f2,f3,f4,f5⟩:=hf it (by simp)
    have hl:=rv.length
    exact acO (I.hnd.heap I.hok) st (show s.heap.IsTuple a its.toArray from p) (by simp;omega) fun h' eb=>⟨rfl,I.turned (t':=s.toks) (fun b o hb e=>eb b o hb e) f0 f1 f3 f4 f5⟩
  self:=fun _ _ _ _ _ st h=>wpAny_pyIter_tupleiter st h
theorem a7M {cm:Bool} {tl:List (Addr×List V)} {P:Program} {w:World} {K:PySem.W.Frag} {tg:Expr} (it:Addr) (lo:Int) (n:Nat):Turn cm tl P w K tg (Itr lo n) [it] it (fun i h=>IsRangeIter h it (lo+(i:Nat) * 1) ((n:Int) - (i:Nat)) 1) where
  mem:=by simp
  obj:=fun i h st b hb=>by
    have e:b=it:=by simpa using hb
    subst e
    exact ⟨_,st,fun v z=>by
      have z':Data.fields _=Data.cell v:=z
      cases z'⟩
  keep:=fun i h h' st k=>k it (by simp) _ st
  item:=by
    intro X hP hw hK hc ht i pins s σ H E I hf st hg
    subst hP hw hK
    obtain ⟨f0,f1,f2,f3,f4,f5⟩:=hf it (by simp)
    have hi:i < n:=hg
    refine wpAny_pyNext_range_item st (by omega) fun h' st' kk=>?_
    have I1:Inv X pins σ H { s with heap:=h',toks:=s.toks+1 }:=I.turned (fun b o hb e=>(kk.2 b hb).trans e) f0 f1 f3 f4 f5
    have st2:IsRangeIter h' it (lo+((i+1:Nat):Int) * 1) ((n:Int) - ((i+1:Nat):Int)) 1:=by
      have e1:lo+((i:Nat):Int) * 1+1=lo+((i+1:Nat):Int) * 1:=by omega
      have e2:(n:Int) - ((i:Nat):Int) - 1=(n:Int) - ((i+1:Nat):Int):=by omega
      rw [← e1,← e2];exact st'
    refine ⟨_,rfl,a5O (s:={ s with heap:=h',toks:=s.toks+1 }) (n := "range_iterator") st2 rfl rfl (by decide) ⟨.int (lo+i),H,I1,⟨s.toks,?_⟩,⟨rfl,rfl⟩,st2,fun b hb=>(hf b hb).1⟩⟩
    rw [Int.mul_one]
  done:=by
    intro X hP hw hK hc ht i pins s σ H E I hf st hg
    subst hP hw hK
    obtain ⟨f0,f1,f2,f3,f4,f5⟩:=hf it (by simp)
    exact acP (I.hnd.heap I.hok) st (by have:n≤i:=hg;omega) fun h' eb=>⟨rfl,I.turned (t':=s.toks) (fun b o hb e=>eb b o hb e) f0 f1 f3 f4 f5⟩
  self:=fun _ _ _ _ _ st h=>wpAny_pyIter_rangeiter st h
end L2
namespace L2
open PySem PySem.Spec PyProof.Rows
section
variable {X:Cx} {tg:Expr}
theorem acZ {pins:List (Addr×Obj)} {σ:St} {H:Hp} {s:Shared} {R:It→Hp→Prop} {E:Value→Shared→Prop} {lo hi:Int} {t u v:Tok} {tk:Nat} (I:Inv X pins σ H s) (h1:-(2 ^ 62)≤lo) (h2:lo < 2 ^ 62) (h3:-(2 ^ 62)≤hi) (h4:hi < 2 ^ 62)
    (q:R (Itr lo (hi - lo).toNat) H):wpAny (model X.prog X.w) X.A (pyIter (.ref s.heap.objs.size)) (PIE X pins σ tg R) E { s with heap:=s.heap.push { cls := .type "range",data := .fields #[.int lo t,.int hi u,.int 1 v] },toks:=tk }:=by
  refine wpAny_pyIter_range (IsRange.new ..) (small_one h1 h2 h3 h4) ?_
  have I1:Inv X pins σ H { s with heap:=s.heap.push { cls := .type "range",data := .fields #[.int lo t,.int hi u,.int 1 v] },toks:=tk }:=I.kept fun b o e=>Heap.get?_push_of_some _ e
  refine ⟨(s.heap.push { cls := .type "range",data := .fields #[.int lo t,.int hi u,.int 1 v] }).objs.size,[(s.heap.push { cls := .type "range",data := .fields #[.int lo t,.int hi u,.int 1 v] }).objs.size],_,_,H,rfl,
    I1.kept (t':=tk) fun b o e=>Heap.get?_push_of_some _ e,a7M _ lo (hi - lo).toNat,?_,fun b hb=>?_,q⟩
  · have e1:lo+((0:Nat):Int) * 1=lo:=by simp
    have e2:(((hi - lo).toNat:Nat):Int) - ((0:Nat):Int)=Builtin.Range.rangeSize lo hi 1:=by rw [rangeSize_one];split <;> omega
    show IsRangeIter _ _ (lo+((0:Nat):Int) * 1) ((((hi - lo).toNat:Nat):Int) - ((0:Nat):Int)) 1
    rw [e1,e2]
    exact Heap.get?_push_size _ rfl
  · have e:b=(s.heap.push { cls := .type "range",data := .fields #[.int lo t,.int hi u,.int 1 v] }).objs.size:=by simpa using hb
    subst e
    exact I1.yS (Nat.le_refl _) (I1.hok.fresh (Nat.le_refl _))
def asC (ta:TA):TI:=fun σ H R=>ta σ H fun vs H1=>∃ j:Int,vs=[.int j]∧-(2 ^ 62)≤j∧j < 2 ^ 62∧R (Itr 0 j.toNat) H1
theorem a1W {a:Expr} {ta:TA} {p pos:Pos} (hg:Gl X "range") (hm:X.mg "range" = none) (ha:PA X [a] ta) (hs:starEach [a] X.env=[(false,eval a X.env)]:=by rfl):PI X tg (.Call (.Name "range" p) [a] [] pos) (asC ta):=by
  intro pins s σ H R I h _tk
  refine Call_ (yR I hg hm boot_range (PyProof.Rows.callWith_type1 (cD (ha pos pins s σ H _ I h) fun us s1 ⟨vs,H1,I1,r1,q1⟩=>?_) hs rfl))
  obtain ⟨j,e,q1,q2,q⟩:=q1
  subst e
  cases r1 with
  | cons r rr =>
    cases rr
    obtain ⟨t,rfl⟩:=r
    exact call_range_1 (acZ I1 (by omega) (by omega) q1 q2 (by simpa using q))
def axO (wi:TI) (g:TG) (tb:TS):TS:=fun D σ H=>wi σ H fun J H1=>∃ W:Nat→Nat→St→Hp→Prop,(∃ m,W 0 m σ H1)∧∀ i m σ H,W i m σ H →
  (J.stop i H∧D.nx σ H)∨(J.go i H∧∃ N:St→Hp→Prop,(∀ σ' H',N σ' H'→∃ m',m' < m∧W (i+1) m' σ' H')∧∀ x H',J.yld i H x H'→g x σ H' fun σ2 H2=>tb { D with nx:=N,ct:=N,bk:=D.nx } σ2 H2)
def w5 (fp:List Addr) (h:Heap):List (Addr×Obj):=fp.filterMap fun b=>(h.get? b).map fun o=>(b,o)
theorem o7 {fp:List Addr} {h:Heap} {b:Addr} {o:Obj} (hb:b∈fp) (e:h.get? b=some o):(b,o)∈w5 fp h:=List.mem_filterMap.mpr ⟨b,hb,by rw [e];rfl⟩
theorem abC {fp:List Addr} {h:Heap} {p:Addr×Obj} (hp:p∈w5 fp h):p.1∈fp∧h.get? p.1=some p.2:=by
  obtain ⟨b,hb,e⟩:=List.mem_filterMap.mp hp
  cases q:h.get? b with
  | none=>rw [q] at e;cases e
  | some o =>
    rw [q] at e
    have e':(b,o)=p:=Option.some.inj e
    subst e'
    exact ⟨hb,q⟩
theorem Inv.pinned {pins:List (Addr×Obj)} {σ:St} {H:Hp} {s:Shared} {fp:List Addr} (I:Inv X pins σ H s) (hf:∀ b∈fp,jP X pins H b) (ho:∀ b∈fp,∃ o,s.heap.get? b=some o∧∀ v,o.data ≠ .cell v):Inv X (pins++w5 fp s.heap) σ H s :=
  I.a9B fun p hp=>(List.mem_append.mp hp).elim (fun z=>I.pin p (List.mem_append_right _ z)) fun z=>by
    obtain ⟨hb,e⟩:=abC z
    obtain ⟨f0,f1,f2,_⟩:=hf p.1 hb
    obtain ⟨o,e',d⟩:=ho p.1 hb
    rw [e] at e';cases e'
    exact ⟨e,f0,f1,f2,d⟩
theorem Inv.uM {pins pl:List (Addr×Obj)} {σ:St} {H:Hp} {s:Shared} (I:Inv X (pins++pl) σ H s):Inv X pins σ H s:=I.a9B fun p hp=>I.pin p (List.mem_append_right _ (List.mem_append_left _ hp))
theorem amO {iter:Expr} {body:List Stmt} {wi:TI} {g:TG} {tb:TS} {pos:Pos} (hp:PassesOwn (model X.prog X.w) X.A X.env X.xe) (hi:PI X tg iter wi) (hg:PG X tg g) (hb:xQ X body tb)
    (hs:∀ x,foldedSetIterable iter X.env x=pure x:=by intro _;rfl):PS X (.For tg iter body [] pos) (axO wi g tb):=by
  intro pins s σ H D I h _tk
  refine wpAny_For (cD (hi pins s σ H _ I h) fun v s1 h1=>cD h1 fun itv s2 h2=>?_) hs
  intro aBN
  obtain ⟨it,fp,tn,J,H2,e,I2,T,st2,f2,W,⟨m0,w0⟩,turn⟩:=h2
  subst e
  have stat:∀ {H':Hp},(∀ b∈fp,H' b=none)→∀ b∈fp,jP X pins H' b:=fun hn b hb=>⟨hn b hb,(f2 b hb).2⟩
  refine codeAny_forLoop_any (fun n s'=>Tk X.need s'∧∃ i σ' H',Inv X pins σ' H' s'∧tn i s'.heap∧(∀ b∈fp,H' b=none)∧W i n σ' H') ?_ m0 ⟨inferInstance,0,σ,H2,I2,st2,fun b hb=>(f2 b hb).1,w0⟩
  rintro n s3 ⟨tk3,i,σ3,H3,I3,st3,fr3,w3⟩
  rcases turn i n σ3 H3 w3 with ⟨stop,qn⟩ | ⟨go,N,hN,step⟩
  · refine wpAny_passesOwn hp (cD (T.done X rfl rfl rfl (fun h=>h) (fun _ h=>h) i pins s3 σ3 H3 X.xe I3 (stat fr3) st3 stop) fun r s4 ⟨hr,I4⟩=>?_)
    subst hr
    exact wpAny_execs_nil ⟨σ3,H3,I4,qn⟩
  · refine wpAny_passesOwn hp (cD (T.item X rfl rfl rfl (fun h=>h) (fun _ h=>h) i pins s3 σ3 H3 X.xe I3 (stat fr3) st3 go) fun r s4 ⟨u,hr,h4⟩=>?_)
    subst hr
    refine wpAny_passesOwn hp (cD h4 fun _ s5 ⟨x,H5,I5,r5,y5,st5,fr5⟩=>?_)
    have I5':=I5.pinned (stat fr5) (T.obj _ _ st5)
    refine wpAny_passesOwn hp (cD (hg _ s5 σ3 H5 x u _ I5' r5 (step x H5 y5)) fun _ s6 ⟨σ6,H6,I6,q6⟩=>?_)
    refine wpAny_passesOwn hp (cD (hb _ s6 σ6 H6 _ I6 q6) fun f s7 q7=>?_)
    intro aBQ
    have again:∀ {σ7:St} {H7:Hp},Inv X (pins++w5 fp s5.heap) σ7 H7 s7→N σ7 H7→∃ m,m < n∧Tk X.need s7∧∃ i σ' H',Inv X pins σ' H' s7∧tn i s7.heap∧(∀ b∈fp,H' b=none)∧W i m σ' H':=fun {σ7 H7} I7 n7=>by
      obtain ⟨m',hm,w7⟩:=hN σ7 H7 n7
      refine ⟨m',hm,inferInstance,i+1,σ7,H7,I7.uM,T.keep _ _ _ st5 fun b hb o e=>(I7.pin (b,o) (List.mem_append_right _ (List.mem_append_right _ (o7 hb e)))).1,fun b hb=>?_,w7⟩
      obtain ⟨o,e,d⟩:=T.obj _ _ st5 b hb
      exact (I7.pin (b,o) (List.mem_append_right _ (List.mem_append_right _ (o7 hb e)))).2.1
    cases f with
    | next=>obtain ⟨σ7,H7,I7,n7⟩:=q7;exact again I7 n7
    | cont=>obtain ⟨σ7,H7,I7,n7⟩:=q7;exact again I7 n7
    | brk=>obtain ⟨σ7,H7,I7,q7⟩:=q7;exact ⟨σ7,H7,I7.uM,q7⟩
    | ret v=>obtain ⟨x7,σ7,H7,I7,r7,q7⟩:=q7;exact ⟨x7,σ7,H7,I7.uM,r7,q7⟩
end
end L2
namespace L2
open PySem PySem.Spec PyProof.Rows
abbrev R2:=V→V→Hp→VK→Prop
def pG (X:Cx) (f:Value→Value→Sem Value) (r:R2):Prop :=
  ∀ (pins:List (Addr×Obj)) (s:Shared) (σ:St) (H:Hp) (x y:V) (v u:Value) (Q:VK),Inv X pins σ H s→RelV x v→RelV y u→r x y H Q →
    wpAny (model X.prog X.w) X.A (f v u) (EP X pins σ Q) X.xe s
def UnR (X:Cx) (f:Value→Sem Value) (r:V→Hp→VK→Prop):Prop :=
  ∀ (pins:List (Addr×Obj)) (s:Shared) (σ:St) (H:Hp) (x:V) (v:Value) (Q:VK),Inv X pins σ H s→RelV x v→r x H Q →
    wpAny (model X.prog X.w) X.A (f v) (EP X pins σ Q) X.xe s
def qG (X:Cx) (f:Value) (r:List V→Hp→VK→Prop):Prop :=
  ∀ (pins:List (Addr×Obj)) (s:Shared) (σ:St) (H:Hp) (xs:List V) (us:List Value) (Q:VK),Inv X pins σ H s→Vals xs us→r xs H Q →
    wpAny (model X.prog X.w) X.A (call f us) (EP X pins σ Q) X.xe s
def tOp (r:R2) (ta tb:TE):TE:=fun σ H Q=>ta σ H fun x H1=>tb σ H1 fun y H2=>r x y H2 Q
def tUn (r:V→Hp→VK→Prop) (ta:TE):TE:=fun σ H Q=>ta σ H fun x H1=>r x H1 Q
def rI (C:Int→Int→Prop) (g:Int→Int→V):R2:=fun x y H Q=>∃ i j,x = .int i∧y = .int j∧C i j∧Q (g i j) H
def rI0 (g:Int→Int→V):R2:=fun x y H Q=>∃ i j,x = .int i∧y = .int j∧Q (g i j) H
def rU (g:Int→V):V→Hp→VK→Prop:=fun x H Q=>∃ i,x = .int i∧Q (g i) H
section
variable {X:Cx} {a b c:Expr} {ta tb tc:TE} {pos:Pos}
theorem amP (ha:PE X a ta) (hb:PE X b tb) {pins:List (Addr×Obj)} {s:Shared} {σ:St} {H:Hp} {R:V→V→Hp→Prop} [Tk X.need s] (I:Inv X pins σ H s)
    (h:ta σ H fun x H1=>tb σ H1 fun y H2=>R x y H2) {Q:Value→Shared→Prop} {f:Value→Value→Sem Value}
    (hf:∀ v u s2 x y H2,Inv X pins σ H2 s2→RelV x v→RelV y u→R x y H2→wpAny (model X.prog X.w) X.A (f v u) Q X.xe s2) :
    wpAny (model X.prog X.w) X.A (eval a X.env) (fun v s₁=>wpAny (model X.prog X.w) X.A (eval b X.env) (fun u s₂=>wpAny (model X.prog X.w) X.A (f v u) Q X.xe s₂) X.xe s₁) X.xe s:=by
  refine cD (ha pins s σ H _ I h) fun v s1 ⟨x,H1,I1,r1,q1⟩=>?_
  refine cD (hb pins s1 σ H1 _ I1 q1) fun u s2 ⟨y,H2,I2,r2,q2⟩=>?_
  exact hf v u s2 x y H2 I2 r1 r2 q2
theorem asD {op:Operator} {r:R2} (ho:pG X (binaryOp op) r) (ha:PE X a ta) (hb:PE X b tb):PE X (.BinOp a op b pos) (tOp r ta tb):=by
  intro pins s σ H Q I h _tk
  exact wpAny_BinOp (amP ha hb I h fun v u s2 x y H2 I2 rx ry q=>ho pins s2 σ H2 x y v u Q I2 rx ry q)
theorem asF {op:UnaryOp} {r:V→Hp→VK→Prop} (ho:UnR X (unaryOp op) r) (ha:PE X a ta):PE X (.UnaryOp op a pos) (tUn r ta):=by
  intro pins s σ H Q I h _tk
  exact UnaryOp_ (cD (ha pins s σ H _ I h) fun v s1 ⟨x,H1,I1,r1,q1⟩=>ho pins s1 σ H1 x v Q I1 r1 q1)
theorem opI {f:Value→Value→Sem Value} {C:Int→Int→Prop} {g:Int→Int→Int}
    (rule:∀ (i j:Int) (t u:Tok) (s:Shared) (Q:Value→Shared→Prop) (E:Value→Shared→Prop),C i j→Q (.int (g i j) s.toks) { s with toks:=s.toks+1 }→wpAny (model X.prog X.w) X.A (f (.int i t) (.int j u)) Q E s) :
    pG X f (rI C fun i j => .int (g i j)):=by
  intro pins s σ H x y v u Q I rx ry h
  obtain ⟨i,j,rfl,rfl,hc,q⟩:=h
  obtain ⟨t,rfl⟩:=rx
  obtain ⟨t',rfl⟩:=ry
  exact rule i j t t' s _ _ hc ⟨.int (g i j),H,I.tok _,⟨_,rfl⟩,q⟩
theorem asG {f:Value→Value→Sem Value} {g:Int→Int→Int}
    (rule:∀ (i j:Int) (t u:Tok) (s:Shared) (Q:Value→Shared→Prop) (E:Value→Shared→Prop),Q (.int (g i j) s.toks) { s with toks:=s.toks+1 }→wpAny (model X.prog X.w) X.A (f (.int i t) (.int j u)) Q E s) :
    pG X f (rI0 fun i j => .int (g i j)):=by
  intro pins s σ H x y v u Q I rx ry h
  obtain ⟨i,j,rfl,rfl,q⟩:=h
  obtain ⟨t,rfl⟩:=rx
  obtain ⟨t',rfl⟩:=ry
  exact rule i j t t' s _ _ ⟨.int (g i j),H,I.tok _,⟨_,rfl⟩,q⟩
theorem ahD {f:Value→Value→Sem Value} {g:Int→Int→Bool}
    (rule:∀ (i j:Int) (t u:Tok) (s:Shared) (Q:Value→Shared→Prop) (E:Value→Shared→Prop),Q (.bool (g i j)) s→wpAny (model X.prog X.w) X.A (f (.int i t) (.int j u)) Q E s) :
    pG X f (rI0 fun i j => .bl (g i j)):=by
  intro pins s σ H x y v u Q I rx ry h
  obtain ⟨i,j,rfl,rfl,q⟩:=h
  obtain ⟨t,rfl⟩:=rx
  obtain ⟨t',rfl⟩:=ry
  exact rule i j t t' s _ _ ⟨.bl (g i j),H,I,rfl,q⟩
def amQ (i j:Int):Prop:=0 < j∧j < 1073741824
def asH (i j:Int):Prop:=0≤j∧j≤1000000∧i.natAbs < 2 ^ 64
def ad0 (i j:Int):Prop:=(-(2 ^ 64) < i∧i < 2 ^ 64)∨(-(2 ^ 64) < j∧j < 2 ^ 64)
theorem ad0.ok {i j:Int} (h:ad0 i j):IntMulOk i j:=by
  rcases h with ⟨h1,h2⟩ | ⟨h1,h2⟩
  · exact .of_left (intBits_le_64 h1 h2)
  · exact .of_right (intBits_le_64 h1 h2)
theorem amR:pG X (binaryOp .Add) (rI0 fun i j => .int (i+j)):=asG fun _ _ _ _ _ _ _ q=>add_int q
theorem amS:pG X (binaryOp .Sub) (rI0 fun i j => .int (i - j)):=asG fun _ _ _ _ _ _ _ q=>sub_int q
theorem amT:pG X (binaryOp .Mult) (rI ad0 fun i j => .int (i * j)):=opI fun _ _ _ _ _ _ _ hc q=>mul_int q hc.ok
theorem ahE:pG X (binaryOp .FloorDiv) (rI amQ fun i j => .int (i / j)):=opI fun i j _ _ _ _ _ hc q=>by
  have h1:(0:Int) < j:=hc.1
  have h2:j < 1073741824:=hc.2
  exact floordiv_int (by omega) (by rw [Int.fdiv_eq_ediv_of_nonneg i (by omega)];exact q) (.inl (PyProof.noPylong_small (by omega)))
theorem amU:pG X (binaryOp .Mod) (rI (fun _ j=>0 < j) fun i j => .int (i % j)):=opI fun i j _ _ _ _ _ hc q=>by
  have h1:(0:Int) < j:=hc
  exact mod_int' (by omega) (by rw [Int.fmod_eq_emod_of_nonneg i (by omega)];exact q)
theorem amV:pG X (binaryOp .Pow) (rI asH fun i j => .int (i ^ j.toNat)):=opI fun _ _ _ _ _ _ _ hc q=>pow_int_small hc.1 hc.2.1 hc.2.2 q
theorem unI {f:Value→Sem Value} {g:Int→Int}
    (rule:∀ (i:Int) (t:Tok) (s:Shared) (Q:Value→Shared→Prop) (E:Value→Shared→Prop),Q (.int (g i) s.toks) { s with toks:=s.toks+1 }→wpAny (model X.prog X.w) X.A (f (.int i t)) Q E s) :
    UnR X f (rU fun i => .int (g i)):=by
  intro pins s σ H x v Q I rx h
  obtain ⟨i,rfl,q⟩:=h
  obtain ⟨t,rfl⟩:=rx
  exact rule i t s _ _ ⟨.int (g i),H,I.tok _,⟨_,rfl⟩,q⟩
theorem amW:UnR X (unaryOp .USub) (rU fun i => .int (-i)):=unI fun _ _ _ _ _ q=>neg_int q
end
section
variable {X:Cx} {a b c:Expr} {ta tb tc:TE} {pos:Pos}
theorem a3J {pins:List (Addr×Obj)} {σ:St} {H:Hp} {s:Shared} {Q:VK} {k k':Bool} (I:Inv X pins σ H s) (q:Q (.bl k) H) (e:k=k'):EP X pins σ Q (.bool k') s:=by
  subst e
  exact ⟨.bl k,H,I,rfl,q⟩
theorem asI:pG X (compareOp .Lt) (rI0 fun i j => .bl (decide (i < j))):=ahD fun _ _ _ _ _ _ _ q=>lt_int q
theorem asJ:pG X (compareOp .LtE) (rI0 fun i j => .bl (decide (i≤j))):=ahD fun _ _ _ _ _ _ _ q=>le_int q
theorem asK:pG X (compareOp .Gt) (rI0 fun i j => .bl (decide (j < i))):=ahD fun _ _ _ _ _ _ _ q=>gt_int q
theorem asL:pG X (compareOp .GtE) (rI0 fun i j => .bl (decide (j≤i))):=ahD fun _ _ _ _ _ _ _ q=>ge_int q
theorem abD:pG X (compareOp .In) (fun x y H Q=>∃ i j,x = .str i∧y = .str j∧Q (.bl (!(Builtin.Str.occurrences j i 0 j.length 1).isEmpty)) H):=by
  intro pins s σ H x y v u Q I rx ry h
  obtain ⟨i,j,rfl,rfl,q⟩:=h
  obtain ⟨t,rfl⟩:=rx
  obtain ⟨t',rfl⟩:=ry
  exact in_str (a3J I q rfl)
theorem amX:pG X (compareOp .Is) (fun x y H Q=>y = .non∧Q (.bl (decide (x = .non))) H):=by
  intro pins s σ H x y v u Q I rx ry h
  obtain ⟨rfl,q⟩:=h
  cases ry
  refine is_none_gen (a3J I q ?_)
  cases x <;> first
    | (cases rx;rfl)
    | (obtain ⟨t,rfl⟩:=rx;rfl)
theorem ahF:pG X (compareOp .IsNot) (fun x y H Q=>y = .non∧Q (.bl (!decide (x = .non))) H):=by
  intro pins s σ H x y v u Q I rx ry h
  obtain ⟨rfl,q⟩:=h
  cases ry
  refine isnot_none_gen (a3J I q ?_)
  cases x <;> first
    | (cases rx;rfl)
    | (obtain ⟨t,rfl⟩:=rx;rfl)
theorem a3K:pG X (compareOp .NotIn) (fun x y H Q=>∃ i j,x = .str i∧y = .str j∧Q (.bl (!(!(Builtin.Str.occurrences j i 0 j.length 1).isEmpty))) H):=by
  intro pins s σ H x y v u Q I rx ry h
  obtain ⟨i,j,rfl,rfl,q⟩:=h
  obtain ⟨t,rfl⟩:=rx
  obtain ⟨t',rfl⟩:=ry
  exact notIn_str (a3J I q rfl)
theorem pG.or {f:Value→Value→Sem Value} {r r':R2} (h:pG X f r) (h':pG X f r'):pG X f (fun x y H Q=>r x y H Q∨r' x y H Q):=by
  intro pins s σ H x y v u Q I rx ry q
  rcases q with q | q
  · exact h pins s σ H x y v u Q I rx ry q
  · exact h' pins s σ H x y v u Q I rx ry q
theorem axR (b:Expr) {op:CmpOp} (h:op ≠ .In:=by decide) (h2:op ≠ .NotIn:=by decide):behindInMarks op b=false:=by
  have e1:(op == CmpOp.In)=false:=by cases op <;> first | rfl | exact absurd rfl h
  have e2:(op == CmpOp.NotIn)=false:=by cases op <;> first | rfl | exact absurd rfl h2
  cases b <;> simp [behindInMarks,e1,e2]
theorem ahG {op:CmpOp} {r:R2} (ho:pG X (compareOp op) r) (ha:PE X a ta) (hb:PE X b tb) (hm:behindInMarks op b=false):PE X (.Compare a [op] [b] pos) (tOp r ta tb):=by
  intro pins s σ H Q I h _tk
  exact wpAny_Compare1 (amP ha hb I h fun v u s2 x y H2 I2 rx ry q=>ho pins s2 σ H2 x y v u Q I2 rx ry q) hm
def akX (t:TE):TT:=fun σ H Q=>t σ H fun x H'=>∃ k,x = .bl k∧Q k H'
theorem ahH {op:CmpOp} {r:R2} (ho:pG X (compareOp op) r) (ha:PE X a ta) (hb:PE X b tb) (hm:behindInMarks op b=false):PT X (.Compare a [op] [b] pos) (akX (tOp r ta tb)):=by
  intro pins s σ H Q I h _tk
  refine wpAny_isTrue_Compare1 (cD (ha pins s σ H _ I h) fun v s1 ⟨x,H1,I1,r1,q1⟩=>cD (hb pins s1 σ H1 _ I1 q1) fun u s2 ⟨y,H2,I2,r2,q2⟩ =>
    cD (ho pins s2 σ H2 x y v u _ I2 r1 r2 q2) fun c s3 ⟨z,H3,I3,r3,k,e,q3⟩=>?_) hm
  subst e
  cases r3
  exact wpAny_truthy_bool ⟨H3,I3,q3⟩
theorem yV:(sizeLine:Nat) < 2 ^ 63:=by rw [sizeLine_eq];decide
theorem a7N:pG X (binaryOp .Add) (fun x y H Q=>∃ i j,x = .str i∧y = .str j∧i.length+j.length≤sizeLine∧Q (.str (i++j)) H):=by
  intro pins s σ H x y v u Q I rx ry h
  obtain ⟨i,j,rfl,rfl,hz,q⟩:=h
  obtain ⟨t,rfl⟩:=rx
  obtain ⟨t',rfl⟩:=ry
  exact add_str (fun t' tk=>⟨.str (i++j),H,I.tok _,⟨_,rfl⟩,q⟩) hz
theorem vals1 {x:V} {us:List Value} (r:Vals [x] us):∃ u,us=[u]∧RelV x u:=by
  cases r with
  | cons r1 r2=>cases r2;exact ⟨_,rfl,r1⟩
theorem vals2 {x y:V} {us:List Value} (r:Vals [x,y] us):∃ u w',us=[u,w']∧RelV x u∧RelV y w':=by
  cases r with
  | cons r1 r2 =>
    cases r2 with
    | cons r3 r4=>cases r4;exact ⟨_,_,rfl,r1,r3⟩
theorem abE:qG X (.type "int") (fun xs H Q=>(∃ i,xs=[.int i]∧Q (.int i) H)∨∃ k,xs=[.bl k]∧Q (.int (if k then 1 else 0)) H):=by
  intro pins s σ H xs us Q I r h
  rcases h with ⟨i,rfl,q⟩ | ⟨k,rfl,q⟩
  · obtain ⟨u,rfl,t,rfl⟩:=vals1 r
    exact call_int_int ⟨.int i,H,I,⟨_,rfl⟩,q⟩
  · obtain ⟨u,rfl,r1⟩:=vals1 r
    cases r1
    exact call_int_bool ⟨.int (if k then 1 else 0),H,I.tok _,⟨_,rfl⟩,q⟩
end
end L2
namespace L2
open PySem PySem.Spec PyProof.Rows
section
variable {prog:Program} {w:World} {A:Around} {E:Value→Shared→Prop} {s:Shared} {K:PySem.W.Frag} {x dx C f:Addr} {mA:Str→Option Value} {name:Str} {v:Value}
theorem ad1 {R:Result→Shared→Prop} {vs:List Value} {kw:List (Str×Value)} (X:K.In s.heap) (hm:PySem.W.makesIn K C=true)
    (hi:PySem.W.findIn K (.ref C) "__init__" = some (some (.ref f))) (hf:PySem.W.typeIn K (.ref f)=some (.type "function"))
    (h:codeAny (model prog w) (A.under (.builtin "type.__call__" ⟨.ref C :: vs,kw⟩)) (.call (.ref f) ⟨.ref (s.heap.objs.size+1) :: vs,kw⟩) (PySem.W.InitBack (s.heap.objs.size+1) R)
      { s with heap:=(s.heap.push PySem.W.emptyDict).push (PySem.W.instObj C s.heap.objs.size) }) :
    codeAny (model prog w) A (.call (.ref C) ⟨vs,kw⟩) R s:=by
  obtain ⟨hh,g,d,t,os⟩:=s
  exact PySem.W.make_core (PySem.W.makes_of X hm) (PySem.W.looks_findIn X hi) (fun self=>PySem.W.bind_fn X self hf) (.inl rfl) h
end
theorem vY.some_of {v:V} {o:Option Value} (r:vY (some v) o):∃ u,o=some u∧RelV v u:=by
  cases o with
  | none=>exact (show False from r).elim
  | some u=>exact ⟨u,rfl,r⟩
section
variable {P:Program} {w:World} {H H':Hp} {h h':Heap} {a C dx:Addr} {fs fs':List (Str×V)}
end
structure Cls (K:PySem.W.Frag) (C:Addr):Prop where
  pg:PySem.W.plainGet K C Str.empty=true
  hd:PySem.W.hasDictIn K C=true
  po:PySem.W.plainOver K C=true
  sa:PySem.W.findIn K (.ref C) "__setattr__" = some (some (.builtin "object.__setattr__"))
theorem Cls.get {K:PySem.W.Frag} {C:Addr} (c:Cls K C) (f:Str):PySem.W.plainGet K C f=true:=c.pg
def ad2 (K:PySem.W.Frag) (C:Addr) (f:Str):Prop:=PySem.W.findIn K (.ref C) f=some none
structure Meth (K:PySem.W.Frag) (C:Addr) (m:Str) (f:Addr):Prop where
  at_:PySem.W.findIn K (.ref C) m=some (some (.ref f))
  fn:PySem.W.isFn K (.ref f)=true
  kp:PySem.W.keepIn K (.ref f)=true
section
variable {X:Cx} {pins:List (Addr×Obj)} {σ:St} {H:Hp} {s:Shared} {a C dx:Addr} {fs:List (Str×V)} {f:Str} {v:V} {A:Around} {E:Value→Shared→Prop}
theorem Inv.made (I:Inv X pins σ H s):Inv X pins σ (upd (upd H s.heap.objs.size (.own (s.heap.objs.size+1))) (s.heap.objs.size+1) (.ins C s.heap.objs.size []))
    { s with heap:=(s.heap.push PySem.W.emptyDict).push (PySem.W.instObj C s.heap.objs.size) }:=by
  have e1:(s.heap.push PySem.W.emptyDict).get? s.heap.objs.size=some PySem.W.emptyDict:=Heap.get?_push_size s.heap rfl
  have e2:((s.heap.push PySem.W.emptyDict).push (PySem.W.instObj C s.heap.objs.size)).get? (s.heap.objs.size+1)=some (PySem.W.instObj C s.heap.objs.size):=by
    have:=Heap.get?_push_size (s.heap.push PySem.W.emptyDict) (o:=PySem.W.instObj C s.heap.objs.size) rfl
    rwa [Heap.size_push] at this
  have e3:(s.heap.push PySem.W.emptyDict).Ns s.heap.objs.size (fun _=>none):=⟨PySem.W.emptyDict,#[],_,e1,rfl,(fun e he=>absurd he (by simp)),fun _=>rfl⟩
  have I1:=I.laid (a:=s.heap.objs.size) (o := .own (s.heap.objs.size+1)) (h':=s.heap.push PySem.W.emptyDict) (t':=s.toks) (fun b u q=>Heap.get?_push_of_some _ q) (Nat.le_refl _) ⟨_,e1⟩
  refine I1.laid (a:=s.heap.objs.size+1) (o := .ins C s.heap.objs.size []) (t':=s.toks) (fun b u q=>Heap.get?_push_of_some _ q) (Nat.le_of_eq (Heap.size_push _ _)) ?_
  have ne:s.heap.objs.size≠s.heap.objs.size+1:=Nat.ne_of_lt (Nat.lt_succ_self _)
  refine ⟨by rw [aG ne,aD],Nat.zero_le _,ne,e2,fun _=>none,(Heap.Ns1.of_empty e3).at fun o q=>Heap.get?_push_of_some _ q,fun _=>True.intro,fun y hy=>absurd rfl hy⟩
end
section
variable {X:Cx} {o e value:Expr} {f:Str} {pos pos' tpos:Pos} {ta tv:TE}
end
section
variable {X:Cx} {pins:List (Addr×Obj)} {σ:St} {H:Hp} {s:Shared} {A:Around} {E:Value→Shared→Prop} {Q:Value→Shared→Prop} {c:Value} {b:Bool}
end
end L2
namespace L2
open PySem PySem.Spec PyProof.Rows
structure bQ (qt:Bool) (k:Nat) (A:Around):Prop where
  hd:qt=false→A.handled=none
  dp:A.depth+3 * k+5 < recursionLimit
  un:A.units+16 * k+200 < cLine
theorem bQ.mono {j k:Nat} {A:Around} (r:bQ qt k A) (h:j≤k):bQ qt j A:=⟨r.hd,by have:=r.dp;omega,by have:=r.un;omega⟩
theorem bQ.deeper {k:Nat} {A:Around} (r:bQ qt (k+1) A) (env:Env):bQ qt k (A.deeper env) :=
  ⟨r.hd,by have:=r.dp;show A.depth+1+3 * k+5 < _;omega,by have:=r.un;show A.units+3+16 * k+200 < _;omega⟩
theorem bQ.in1 {k:Nat} {A:Around} (r:bQ qt (k+1) A):bQ qt k A.in1 :=
  ⟨r.hd,by have:=r.dp;show A.depth+3 * k+5 < _;omega,by have:=r.un;show A.units+1+16 * k+200 < _;omega⟩
theorem a7O {A:Around} {C:Addr} {us:List Value} {kw:List (Str×Value)}:(A.under (.builtin "type.__call__" ⟨.ref C :: us,kw⟩)).depth=A.depth+1:=by
  first | rfl | simp [Around.under,Code.weight,Code.isCreation,Code.isGuard,Code.isCaller,Code.frames,Code.isFrame,guardIds]
theorem a7P {A:Around} {C:Addr} {us:List Value} {kw:List (Str×Value)}:(A.under (.builtin "type.__call__" ⟨.ref C :: us,kw⟩)).units=A.units+1:=by
  first | rfl | simp [Around.under,Code.cUnits,Code.frames,Code.isFrame]
theorem bQ.make {k:Nat} {A:Around} (r:bQ qt (k+1) A) (C:Addr) (us:List Value) (kw:List (Str×Value)):bQ qt k (A.under (.builtin "type.__call__" ⟨.ref C :: us,kw⟩)) :=
  ⟨r.hd,by have:=r.dp;rw [a7O];omega,by have:=r.un;rw [a7P];omega⟩
theorem bQ.depth {k:Nat} {A:Around} (r:bQ qt k A):A.depth < recursionLimit:=by have:=r.dp;omega
theorem bQ.units {k:Nat} {A:Around} (r:bQ qt k A):A.units+64 < cLine:=by have:=r.un;omega
def asM:TA:=fun _ H Q=>Q [] H
def akY (ta:TE) (tr:TA):TA:=fun σ H Q=>ta σ H fun x H1=>tr σ H1 fun xs H2=>Q (x :: xs) H2
section
variable {X:Cx} {e:Expr} {es:List Expr} {te:TE} {t:TA} {pos:Pos}
theorem amY:PA X [] asM:=fun _ _ _ _ H Q I h=>Calls.spliced_nil ⟨[],H,I,.nil,h⟩
theorem ahI (ha:PE X e te) (hr:PA X es t) (hs:starEach (e :: es) X.env=(false,eval e X.env) :: starEach es X.env:=by rfl):PA X (e :: es) (akY te t):=by
  intro pos pins s σ H Q I h _tk
  rw [hs]
  show wpAny _ _ (spliced ((false,eval e X.env) :: backTo pos (starEach es X.env))) _ _ s
  refine Calls.spliced_cons (cD (ha pins s σ H _ I h) fun u s1 ⟨x,H1,I1,r1,q1⟩=>?_)
  exact cD (hr pos pins s1 σ H1 _ I1 q1) fun us s2 ⟨xs,H2,I2,r2,q2⟩=>⟨x :: xs,H2,I2,.cons r1 r2,q2⟩
def axS (t:TA):TE:=fun σ H Q=>t σ H fun xs H1=>xs.length≤sizeLine∧∀ p,H1 p=none→Q (.ref p) (upd H1 p (.tup xs))
def axT (t:TA):TE:=fun σ H Q=>t σ H fun xs H1=>xs.length≤sizeLine∧∀ p,H1 p=none→Q (.ref p) (upd H1 p (.lst xs))
theorem amZ {x1} (h:PA X es t):PE X (.Tuple es x1 pos) (axS t):=by
  intro pins s σ H Q I hq _tk
  refine wpAny_Tuple_spliced (cD (h pos pins s σ H _ I hq) fun us s1 ⟨xs,H1,I1,r,z,q⟩=>⟨by rw [← r.length];exact z,?_⟩)
  have hf:H1 s1.heap.objs.size=none:=I1.hok.fresh (Nat.le_refl _)
  refine ⟨.ref s1.heap.objs.size,upd H1 s1.heap.objs.size (.tup xs),I1.laid (t':=s1.toks) (fun b u e=>Heap.get?_push_of_some _ e) (Nat.le_refl _) ?_,rfl,q _ hf⟩
  exact ⟨z,us,r,⟨_,Heap.get?_push_size _ rfl,rfl,_,rfl⟩⟩
theorem an0 (h:PA X es t):PE X (.List es pos) (axT t):=by
  intro pins s σ H Q I hq _tk
  refine wpAny_List_spliced (cD (h pos pins s σ H _ I hq) fun us s1 ⟨xs,H1,I1,r,z,q⟩=>⟨by rw [← r.length];exact z,?_⟩)
  have hf:H1 s1.heap.objs.size=none:=I1.hok.fresh (Nat.le_refl _)
  refine ⟨.ref s1.heap.objs.size,upd H1 s1.heap.objs.size (.lst xs),I1.laid (t':=s1.toks) (fun b u e=>Heap.get?_push_of_some _ e) (Nat.le_refl _) ?_,rfl,q _ hf⟩
  exact ⟨z,us,0,r,Heap.get?_push_size _ rfl⟩
end
abbrev Sp:=List V→Hp→VK→XK→Prop
abbrev xX:=List Env→Hp→Shared→XK→Value→Shared→Prop
structure qH (P:Program) (w:World) (K:PySem.W.Frag) (mg:Str→Option Value) (base:Heap) (A:Around) (outer:List Env) (s:Shared) (H:Hp):Prop where
  frames:A.frames=some outer
  mod:Mod K mg base
  bs:∀ b o,base.get? b=some o→s.heap.get? b=some o∧H b=none
  bsz:base.objs.size≤s.heap.objs.size
  mY:s.heap.FunFrames base outer
  frf:∀ b∈frs outer,H b=none
  hok:mW P w H s.heap
  bare:AllBare s.gens
  hnd:Hnd A H
def CE (outer:List Env) (P:Program) (w:World) (H:Hp) (s:Shared) (Q:VK) (u:Value) (s':Shared):Prop :=
  ∃ v H',s'.os=s.os∧AllBare s'.gens∧Un (frs outer) [] H H' s.heap s'.heap∧mW P w H' s'.heap∧RelV v u∧Q v H'
def CR (CX:xX) (outer:List Env) (P:Program) (w:World) (H:Hp) (s:Shared) (Q:VK) (E:XK) (r:Result) (s':Shared):Prop :=
  match r with
  | .ok (.ret u)=>CE outer P w H s Q u s'
  | .ok _=>False
  | .error e=>CX outer H s E e s'
structure bY (qt:Bool) (P:Program) (w:World) (K:PySem.W.Frag) (mg:Str→Option Value) (base:Heap) (CX:xX) (k:Nat) (f:Addr) (fd:FuncData) (ps:List Str) (sp:Sp):Prop where
  len:∀ vs H Q E,sp vs H Q E→vs.length=ps.length
  run:∀ (A:Around) (outer:List Env) (s:Shared) (H:Hp) (args:Args) (us:List Value) (vs:List V) (Q:VK) (E:XK),bQ qt k A→qH P w K mg base A outer s H→BindsTo s fd args (ps.zip us)→Vals vs us→sp vs H Q E →
    codeAny (model P w) A (.call (.ref f) args) (CR CX outer P w H s Q E) s
theorem bY.mono {P:Program} {w:World} {K:PySem.W.Frag} {mg:Str→Option Value} {base:Heap} {CX:xX} {j k:Nat} {f:Addr} {fd:FuncData} {ps:List Str} {sp:Sp} (F:bY qt P w K mg base CX j f fd ps sp) (h:j≤k) :
    bY qt P w K mg base CX k f fd ps sp:=⟨F.len,fun A outer s H args us vs Q E hr=>F.run A outer s H args us vs Q E (hr.mono h)⟩
theorem bY.imp {P:Program} {w:World} {K:PySem.W.Frag} {mg:Str→Option Value} {base:Heap} {CX:xX} {k:Nat} {f:Addr} {fd:FuncData} {ps:List Str} {sp sp':Sp} (F:bY qt P w K mg base CX k f fd ps sp)
    (h:∀ vs H Q E,sp' vs H Q E→sp vs H Q E):bY qt P w K mg base CX k f fd ps sp' :=
  ⟨fun vs H Q E q=>F.len vs H Q E (h _ _ _ _ q),fun A outer s H args us vs Q E hr he hb hv hs=>F.run A outer s H args us vs Q E hr he hb hv (h _ _ _ _ hs)⟩
theorem qH.make {P:Program} {w:World} {K:PySem.W.Frag} {mg:Str→Option Value} {base:Heap} {A:Around} {outer:List Env} {s:Shared} {H:Hp} (e:qH P w K mg base A outer s H) (C:Addr) (us:List Value) (kw:List (Str×Value)) :
    qH P w K mg base (A.under (.builtin "type.__call__" ⟨.ref C :: us,kw⟩)) outer s H:=⟨by first | exact e.frames | (simpa [Around.under,Code.envs,Code.isFrame,pushEnvs] using e.frames),e.mod,e.bs,e.bsz,e.mY,e.frf,e.hok,e.bare,e.hnd⟩
theorem qH.in1 {P:Program} {w:World} {K:PySem.W.Frag} {mg:Str→Option Value} {base:Heap} {A:Around} {outer:List Env} {s:Shared} {H:Hp} (e:qH P w K mg base A outer s H) :
    qH P w K mg base A.in1 outer s H:=⟨e.frames,e.mod,e.bs,e.bsz,e.mY,e.frf,e.hok,e.bare,e.hnd⟩
section
variable {X:Cx} {pins:List (Addr×Obj)} {σ:St} {H:Hp} {s s':Shared}
theorem Inv.env0 (I:Inv X pins σ H s):qH X.prog X.w X.K X.mg X.base X.A X.stack s H :=
  ⟨I.ok.frames,I.ok.mod,I.bs,Nat.le_trans I.ok.bsz I.sz,I.stack,I.a3G,I.hok,I.bare,I.hnd⟩
end
def Binds (K:PySem.W.Frag) (fd:FuncData) (ps:List Str) (ds:List Value):Prop :=
  ∀ (s:Shared) (us:List Value),K.In s.heap→(us++ds).length=ps.length→BindsTo s fd ⟨us,[]⟩ (ps.zip (us++ds))
theorem Binds.all {K:PySem.W.Frag} {fd:FuncData} {ps:List Str} (h:∀ us:List Value,us.length=ps.length→bindArgs fd ⟨us,[]⟩=pure (ps.zip us)):Binds K fd ps []:=fun s us _ hl=>by
  rw [List.append_nil] at hl ⊢
  exact .of_eq (h us hl)
section
variable {X:Cx} {CX:xX} {k:Nat} {f C:Addr} {fd:FuncData} {ps:List Str} {sp:Sp} {uJ:List V} {ds:List Value} {E:XK} {x m:Str} {p pos apos:Pos} {e o:Expr} {es:List Expr} {ta:TE} {t:TA}
structure Mk (K:PySem.W.Frag) (C f:Addr):Prop where
  makes:PySem.W.makesIn K C=true
  init:PySem.W.findIn K (.ref C) "__init__" = some (some (.ref f))
  fn:PySem.W.isFn K (.ref f)=true
  kp:PySem.W.keepIn K (.ref C)=true
end
def PK (X:Cx) (kws:List Keyword) (t:TA):Prop :=
  ∀ (pos:Pos) (pins:List (Addr×Obj)) (s:Shared) (σ:St) (H:Hp) (Q:List V→Hp→Prop),Inv X pins σ H s→t σ H Q→[Tk X.need s]→wpAny (model X.prog X.w) X.A (evalAll ((backToKw pos (keywordEach kws X.env)).map (·.2))) (AP X pins σ Q) X.xe s
section
variable {X:Cx} {CX:xX} {k:Nat} {f C:Addr} {fd:FuncData} {ps ks:List Str} {sp:Sp} {E:XK} {x m:Str} {p pos apos kpos:Pos} {e o:Expr} {es:List Expr} {kws:List Keyword} {te ta:TE} {t tk:TA} {nm:Option Str}
theorem an1:PK X [] asM:=fun _ _ _ _ H Q I h=>wpAny_evalAll_nil ⟨[],H,I,.nil,h⟩
theorem ahJ (ha:PE X e te) (hr:PK X kws t):PK X (⟨nm,e,kpos⟩ :: kws) (akY te t):=by
  intro pos pins s σ H Q I h _tk
  show wpAny _ _ (evalAll ((do let v ← eval e X.env;standAt pos;pure v) :: (backToKw pos (keywordEach kws X.env)).map (·.2))) _ _ s
  refine wpAny_evalAll_cons (wpAny_bind (cD (ha pins s σ H _ I h) fun u s1 ⟨x,H1,I1,r1,q1⟩=>wpAny_bind (wpAny_standAt (wpAny_pure ?_))))
  exact cD (hr pos pins s1 σ H1 _ I1 q1) fun us s2 ⟨xs,H2,I2,r2,q2⟩=>⟨x :: xs,H2,I2,.cons r1 r2,q2⟩
variable {g:List Value→List Value→List Value} {gV:List V→List V→List V}
end
structure bD (N P:List Str) (sc:Scope):Prop where
  kind:sc.kind = .function
  co:sc.isCoroutine=false
  gen:sc.isGenerator=false
  nd:N.Nodup
  pre:N.take P.length=P
  par:∀ x∈P,sc.names.lookup x=some .local∨sc.names.lookup x=some .cell
  an2:∀ y∈sc.names,y.2 ≠ .free
theorem a1X {kindOf:Str→Option NameKind} {x:Str}:∀ {binds:List (Str×Value)} {m:Str→Option Value},(∀ v,(x,v) ∉ binds)→bindL kindOf binds m x=m x
  | [],_,_=>rfl
  | (n,v) :: r,m,h=>by
    unfold bindL
    rw [a1X fun w hw=>h w (List.mem_cons_of_mem _ hw)]
    split
    · have:x≠n:=by rintro rfl;exact h v List.mem_cons_self
      simp [this]
    · rfl
theorem a1Y {kindOf:Str→Option NameKind} {x:Str}:∀ {binds:List (Str×Value)} {m:Str→Option Value},(∀ v,(x,v) ∉ binds)→bindC kindOf binds m x=m x
  | [],_,_=>rfl
  | (n,v) :: r,m,h=>by
    unfold bindC
    rw [a1Y fun w hw=>h w (List.mem_cons_of_mem _ hw)]
    split
    · rfl
    · have:x≠n:=by rintro rfl;exact h v List.mem_cons_self
      simp [this]
theorem wA {kindOf:Str→Option NameKind} {x:Str} {v:Value}:∀ {P:List Str} {vs:List Value} {i:Nat} {m:Str→Option Value},P.Nodup→P[i]?=some x→vs[i]?=some v→kindOf x=some .local →
    bindL kindOf (P.zip vs) m x=some v
  | [],_,_,_,_,h,_,_=>by simp at h
  | _ :: _,[],_,_,_,_,h,_=>by simp at h
  | p :: P,w :: vs,0,m,nd,h1,h2,hk=>by
    simp at h1 h2;subst h1;subst h2
    show bindL kindOf ((p,w) :: P.zip vs) m p=_
    unfold bindL
    rw [a1X fun v hv=>(List.nodup_cons.mp nd).1 (List.of_mem_zip hv).1,if_pos hk]
    simp
  | p :: P,w :: vs,i+1,m,nd,h1,h2,hk=>by
    show bindL kindOf ((p,w) :: P.zip vs) m x=_
    unfold bindL
    exact wA (i:=i) (List.nodup_cons.mp nd).2 (by simpa using h1) (by simpa using h2) hk
theorem a1Z {kindOf:Str→Option NameKind} {x:Str} {v:Value}:∀ {P:List Str} {vs:List Value} {i:Nat} {m:Str→Option Value},P.Nodup→P[i]?=some x→vs[i]?=some v→kindOf x≠some .local →
    bindC kindOf (P.zip vs) m x=some v
  | [],_,_,_,_,h,_,_=>by simp at h
  | _ :: _,[],_,_,_,_,h,_=>by simp at h
  | p :: P,w :: vs,0,m,nd,h1,h2,hk=>by
    simp at h1 h2;subst h1;subst h2
    show bindC kindOf ((p,w) :: P.zip vs) m p=_
    unfold bindC
    rw [a1Y fun v hv=>(List.nodup_cons.mp nd).1 (List.of_mem_zip hv).1,if_neg hk]
    simp
  | p :: P,w :: vs,i+1,m,nd,h1,h2,hk=>by
    show bindC kindOf ((p,w) :: P.zip vs) m x=_
    unfold bindC
    exact a1Z (i:=i) (List.nodup_cons.mp nd).2 (by simpa using h1) (by simpa using h2) hk
def start (N:List Str) (vs:List V):St:=vs.map some++List.replicate (N.length - vs.length) none
def eE (qt:Bool) (CX:xX) (P:Program) (w:World) (K:PySem.W.Frag) (mg:Str→Option Value) (base:Heap) (N:List Str) (qual:Str) (scope:Scope) (f:Addr) (cd:Value) (A:Around) (outer:List Env) (s:Shared) (H:Hp) (E:XK):Cx where
  prog:=P
  w:=w
  K:=K
  mg:=mg
  base:=base
  A:=A.deeper (envOfC qual scope s.heap.objs.size f cd)
  N:=N
  s₀:=s
  H₀:=H
  env:=envOfC qual scope s.heap.objs.size f cd
  outer:=outer
  stack:=envOfC qual scope s.heap.objs.size f cd :: outer
  ex:=[]
  calm:=!qt
  fn:=fun _=>true
  pn:=[]
  tp:=[]
  xe:=fun e s'=>wpAny (model P w) (A.deeper (envOfC qual scope s.heap.objs.size f cd)) (leaving (envOfC qual scope s.heap.objs.size f cd) e) (fun _ s''=>CX outer H s E e s'') (fun e' s''=>CX outer H s E e' s'') s'
instance aA5 {qt:Bool} {CX:xX} {P:Program} {w:World} {K:PySem.W.Frag} {mg:Str→Option Value} {base:Heap} {N:List Str} {qual:Str} {scope:Scope} {f:Addr} {cd:Value} {A:Around} {outer:List Env} {s s1:Shared} {H:Hp} {E:XK}:Tk (eE qt CX P w K mg base N qual scope f cd A outer s H E).need s1:=⟨fun z=>nomatch z⟩
theorem qI {sc:Scope} {n:Nat} {x:Str} (h:sc.names.lookup x=some .cell):∃ c,(cellsFrom n sc.names []).lookup x=some c:=by
  have q:=PySem.W.cellsFrom_some sc.names n [] (.inl h)
  exact Option.isSome_iff_exists.mp q
theorem wB {CX:xX} {P:Program} {w:World} {K:PySem.W.Frag} {mg:Str→Option Value} {base:Heap} {N ps:List Str} {qual:Str} {scope:Scope} {f:Addr} {cd:Value} {A:Around} {outer:List Env} {s s1:Shared} {H:Hp} {E:XK} {us:List Value} {vs:List V}
    (S:bD N ps scope) (hd:qt=false→A.handled=none) (e0:qH P w K mg base A outer s H) (hl:vs.length=ps.length) (r:Vals vs us)
    (x:InCallC s s.heap.objs.size (bindL (envOfC qual scope s.heap.objs.size f cd).kindOf (ps.zip us) fun _=>none) (cellsFrom (s.heap.objs.size+1) scope.names []) (bindC (envOfC qual scope s.heap.objs.size f cd).kindOf (ps.zip us) fun _=>none) s1) :
    Inv (eE qt CX P w K mg base N qual scope f cd A outer s H E) [] (start N vs) H s1:=by
  have hpl:ps.length≤N.length:=by have:=congrArg List.length S.pre;rw [List.length_take] at this;omega
  obtain ⟨h1,tk,rfl,hk⟩:=x.done
  have noA:∀ b:Addr,b ∉ (eE qt CX P w K mg base N qual scope f cd A outer s H E).ex:=fun b z=>absurd (show b∈([]:List Addr) from z) (by simp)
  refine ⟨⟨e0.mod,S.kind,rfl,rfl,Nat.le_refl _,fun y z c h1 h2=>?_,fun y hy=>?_,fun y c _ h=>?_,fun z=>hd (by cases qt with | false=>rfl | true=>cases z),Around.frames_deeper e0.frames,.inr ⟨rfl,rfl⟩,fun b z=>absurd z (noA b),e0.bs,e0.bsz,fun b _ _=>noA b,fun b z=>absurd z (noA b),e0.mY,e0.frf⟩,
    rfl,e0.bare,Un.kept hk,⟨_,x.toInCall.ns,fun i y v h1 h2 h3=>?_⟩,fun y c h=>⟨_,x.cell y c h⟩,e0.hok.fresh (Nat.le_refl _),fun y c h=>?_,fun p hp=>absurd (show p∈([]:List (Addr×Obj)) from hp) (by simp),e0.hok.kept hk,?_,e0.hnd,fun p hp=>absurd (show p∈([]:List (Addr×List V)) from hp) (by simp)⟩
  · exact name_of_addr x.apart (PySem.mem_of_lookup h1) (PySem.mem_of_lookup h2)
  · have hy:scope.names.lookup y=some .cell∨scope.names.lookup y=some .free:=hy
    rcases hy with hy | hy
    · exact qI hy
    · exact absurd rfl (S.an2 _ (PySem.mem_of_lookup hy))
  · exact Nat.le_of_lt (x.above y c (PySem.mem_of_lookup h))
  · have hi:i < vs.length:=by
      unfold start at h2
      by_cases hi:i < vs.length
      · exact hi
      · rw [List.getElem?_append_right (by simpa using hi)] at h2
        rw [List.getElem?_replicate] at h2
        split at h2 <;> cases h2
    have ha:vs[i]?=some v:=by
      unfold start at h2
      rw [List.getElem?_append_left (by simpa using hi),List.getElem?_map] at h2
      cases e:vs[i]? with
      | none=>rw [e] at h2;cases h2
      | some a=>rw [e] at h2;cases h2;rfl
    obtain ⟨u,hu,rv⟩:=r.get ha
    have hp:ps[i]?=some y:=by
      rw [← S.pre,List.getElem?_take_of_lt (by omega)];exact h1
    have ndP:ps.Nodup:=by rw [← S.pre];exact S.nd.sublist (List.take_sublist _ _)
    refine ⟨u,rv,?_⟩
    rcases S.par y (List.mem_of_getElem? hp) with k | k
    · exact .inl ⟨k,wA ndP hp hu k⟩
    · obtain ⟨c,e⟩:=qI (n:=s.heap.objs.size+1) k
      refine .inr ⟨.inl k,c,e,?_⟩
      have q:=x.cell y c e
      rw [a1Z ndP hp hu (by show scope.names.lookup y≠_;rw [k];decide)] at q
      exact q
  · exact e0.hok.fresh (Nat.le_of_lt (x.above y c (PySem.mem_of_lookup h)))
  · unfold start
    show _=N.length
    rw [List.length_append,List.length_map,List.length_replicate]
    omega
theorem ad3 {CX:xX} {P:Program} {w:World} {K:PySem.W.Frag} {mg:Str→Option Value} {base:Heap} {k:Nat} {f:Addr} {name qual:Str} {params:Arguments} {body:List Stmt} {scope:Scope} {dV kV doc pm cdv ct oc:Value} {an od:Option Addr}
    {osl:Array (Option Value)} {N ps:List Str} {sp:Sp} (lk:K.lookup f=some ⟨oc,od,.func (PySem.W.fnOf name qual params body scope dV kV doc pm an cdv ct),osl⟩) (hcd:PySem.W.codeIn K cdv qual=true) (S:bD N ps scope)
    (len:∀ vs H Q E,sp vs H Q E→vs.length=ps.length)
    (hbody:∀ (A:Around) (outer:List Env) (s:Shared) (H:Hp) (vs:List V) (Q:VK) (E:XK),bQ qt k (A.deeper (envOfC qual scope s.heap.objs.size f cdv))→sp vs H Q E →
      ∃ t,xQ (eE qt CX P w K mg base N qual scope f cdv A outer s H E) body t∧t { nx:=fun _ H'=>Q .non H',rt:=Q } (start N vs) H) :
    bY qt P w K mg base CX (k+1) f (PySem.W.fnOf name qual params body scope dV kV doc pm an cdv ct) ps sp:=by
  refine ⟨len,fun A outer s H args us vs Q E hr e0 hb r hsp=>?_⟩
  have hl:=len _ _ _ _ hsp
  have KX:K.In s.heap:=e0.mod.kin.keeps fun b o e=>(e0.bs b o e).1
  have lim:s.heap.NoLimit:=e0.mod.nolimit.keeps fun b o e=>(e0.bs b o e).1
  have hkind:∀ y∈ps.zip us,scope.names.lookup y.1=some .local∨(scope.names.lookup y.1=some .cell∧((cellsFrom (s.heap.objs.size+1) scope.names []).lookup y.1).isSome=true):=fun ⟨n,v⟩ hy=>by
    rcases S.par n (List.of_mem_zip hy).1 with q | q
    · exact .inl q
    · exact .inr ⟨q,PySem.W.cellsFrom_some _ _ _ (.inl q)⟩
  refine codeAny_call_function hr.depth (KX _ _ lk) rfl S.co S.gen rfl (PySem.W.codeRec_of KX hcd) (hb _ _ _ _ ?_)
  refine wpAny_newFunctionEnv_cells S.kind hkind fun env he s1 x=>?_
  subst he
  refine ⟨lim.keeps x.toInCall.keep,codeAny_func ?_⟩
  obtain ⟨t,ht,hq⟩:=hbody A outer s H vs Q E (hr.deeper _) hsp
  have I:Inv (eE qt CX P w K mg base N qual scope f cdv A outer s H E) [] (start N vs) H s1:=wB S hr.hd e0 hl r x
  refine wpAny_mono (@ht [] s1 (start N vs) H _ I hq ⟨fun z=>nomatch z⟩) (fun fl s' hs=>?_) fun e s' hs=>hs
  have fin:∀ {σ':St} {H':Hp} {v:V} {u:Value},Inv (eE qt CX P w K mg base N qual scope f cdv A outer s H E) [] σ' H' s'→RelV v u→Q v H'→CE outer P w H s Q u s' :=
    fun {σ' H' v u} J rv q=>⟨v,H',J.os,J.bare,J.base,J.hok,rv,q⟩
  cases fl with
  | ret u =>
    obtain ⟨v,σ',H',J,rv,q⟩:=hs
    exact fin J rv q
  | next =>
    obtain ⟨σ',H',J,q⟩:=hs
    exact fin (v:=V.non) (u:=Value.none) J rfl q
  | brk =>
    obtain ⟨_,_,_,q⟩:=hs
    exact False.elim q
  | cont =>
    obtain ⟨_,_,_,q⟩:=hs
    exact False.elim q
end L2
namespace L2
open PySem PySem.Spec PyProof.Rows
section
variable {X:Cx} {x:Str} {p pos:Pos} {e:Expr} {es:List Expr} {t:TA} {id T:String} {r:List V→Hp→VK→Prop}
end
end L2
namespace L2
open PySem PySem.Spec PyProof.Rows
section
variable {κ:Type} [DecidableEq κ]
def qJ (kvs:List (κ×V)) (k:κ):Option V:=(kvs.find? fun kv=>decide (kv.1=k)).map (·.2)
def putK (kvs:List (κ×V)) (k:κ) (v:V):List (κ×V) :=
  if (kvs.any fun kv=>decide (kv.1=k))=true then kvs.map (fun kv=>if kv.1=k then (kv.1,v) else kv) else kvs++[(k,v)]
def pH (kvs:List (κ×V)) (k:κ):List (κ×V):=kvs.filter fun kv=>decide (kv.1≠k)
theorem uN {p:κ×V} {r:List (κ×V)} {k:κ} (e:p.1=k):qJ (p :: r) k=some p.2:=by simp [qJ,List.find?_cons,e]
theorem uO {p:κ×V} {r:List (κ×V)} {k:κ} (e:¬ p.1=k):qJ (p :: r) k=qJ r k:=by simp [qJ,List.find?_cons,e]
theorem yW (k:κ):∀ kvs:List (κ×V),(kvs.any fun kv=>decide (kv.1=k))=(qJ kvs k).isSome
  | []=>rfl
  | p :: r=>by
    rw [List.any_cons]
    by_cases e:p.1=k
    · simp only [uN e,decide_eq_true e,Bool.true_or,Option.isSome_some]
    · rw [uO e,decide_eq_false e,Bool.false_or];exact yW k r
theorem lQ (kvs:List (κ×V)) (k:κ) (v:V):(putK kvs k v).length≤kvs.length+1:=by
  unfold putK
  split
  · rw [List.length_map];omega
  · rw [List.length_append,List.length_cons,List.length_nil];omega
theorem vY.jD {o:Option V} {u:Option Value} (r:vY o u):o.isSome=u.isSome:=by
  cases o with
  | none=>cases u with
    | none=>rfl
    | some _=>exact (show False from r).elim
  | some _=>cases u with
    | none=>exact (show False from r).elim
    | some _=>rfl
theorem vY.getD {o:Option V} {u:Option Value} {d:V} {d':Value} (r:vY o u) (rd:RelV d d'):RelV (o.getD d) (u.getD d'):=by
  cases o with
  | none=>cases u with
    | none=>exact rd
    | some _=>exact (show False from r).elim
  | some _=>cases u with
    | none=>exact (show False from r).elim
    | some _=>exact r
theorem KV.val {kvs:List (κ×V)} {vs:List (κ×Value)} (r:KV kvs vs) (k:κ):vY (qJ kvs k) (valueAt vs k):=by
  unfold KV at r
  induction r with
  | nil=>exact True.intro
  | @cons p q ps qs h t ih =>
    obtain ⟨h1,h2⟩:=h
    by_cases e:p.1=k
    · have e':q.1=k:=h1.symm.trans e
      have b:valueAt (q :: qs) k=some q.2:=by simp [valueAt,List.find?_cons,e']
      rw [uN e,b];exact h2
    · have e':¬ q.1=k:=fun z=>e (h1.trans z)
      have b:valueAt (q :: qs) k=valueAt qs k:=by simp [valueAt,List.find?_cons,e']
      rw [uO e,b];exact ih
theorem KV.any {kvs:List (κ×V)} {vs:List (κ×Value)} (r:KV kvs vs) (k:κ):(kvs.any fun kv=>decide (kv.1=k))=vs.any fun kv=>decide (kv.1=k):=by
  unfold KV at r
  induction r with
  | nil=>rfl
  | cons h t ih=>rw [List.any_cons,List.any_cons,ih,h.1]
theorem KV.repl {kvs:List (κ×V)} {vs:List (κ×Value)} (r:KV kvs vs) (k:κ) {y:V} {u:Value} (ry:RelV y u) :
    KV (kvs.map fun kv=>if kv.1=k then (kv.1,y) else kv) (vs.map fun kv=>if kv.1=k then (kv.1,u) else kv):=by
  unfold KV at r ⊢
  induction r with
  | nil=>exact .nil
  | @cons p q ps qs h t ih =>
    rw [List.map_cons,List.map_cons]
    refine .cons ?_ ih
    obtain ⟨h1,h2⟩:=h
    by_cases e:p.1=k
    · rw [if_pos e,if_pos (h1.symm.trans e)];exact ⟨h1,ry⟩
    · rw [if_neg e,if_neg (fun z=>e (h1.trans z))];exact ⟨h1,h2⟩
theorem KV.put {kvs:List (κ×V)} {vs:List (κ×Value)} (r:KV kvs vs) (k:κ) {y:V} {u:Value} (ry:RelV y u):KV (putK kvs k y) (stored vs k u):=by
  unfold putK stored
  rw [r.any k]
  by_cases e:(vs.any fun kv=>decide (kv.1=k))=true
  · rw [if_pos e,if_pos e];exact r.repl k ry
  · rw [if_neg e,if_neg e];exact Paired.snoc r ⟨rfl,ry⟩
theorem KV.drop {kvs:List (κ×V)} {vs:List (κ×Value)} (r:KV kvs vs) (k:κ):KV (pH kvs k) (without vs k):=by
  unfold KV at r ⊢
  unfold pH without
  induction r with
  | nil=>exact .nil
  | @cons p q ps qs h t ih =>
    obtain ⟨h1,h2⟩:=h
    rw [List.filter_cons,List.filter_cons]
    by_cases e:p.1=k
    · have a:¬ decide (p.1≠k)=true:=by simp [e]
      have b:¬ decide (q.1≠k)=true:=by simp [h1.symm.trans e]
      rw [if_neg a,if_neg b];exact ih
    · have e':¬ q.1=k:=fun z=>e (h1.trans z)
      have a:decide (p.1≠k)=true:=by simp [e]
      have b:decide (q.1≠k)=true:=by simp [e']
      rw [if_pos a,if_pos b];exact .cons ⟨h1,h2⟩ ih
theorem KV.length {kvs:List (κ×V)} {vs:List (κ×Value)} (r:KV kvs vs):kvs.length=vs.length:=Paired.length r
theorem yX (kvs:List (κ×V)) (k:κ):(pH kvs k).length≤kvs.length:=List.length_filter_le _ _
end
theorem uP {P:Program} {w:World} {k:Key} {u:Value} (r:RelV (kV k) u):(aH P w).is k u=true:=by
  cases k with
  | inl i=>obtain ⟨t,e⟩:=(show ∃ t,u=Value.int i t from r);subst e;exact xB P w i t
  | inr x=>obtain ⟨t,e⟩:=(show ∃ t,u=Value.str x t from r);subst e;exact a5J P w x t
theorem rY {P:Program} {w:World}:∀ {ks:List Key} {us:List Value},Vals (ks.map kV) us→ItemsAre (aH P w) ks us
  | [],_,r=>by rw [List.map_nil] at r;cases r;exact .nil
  | k :: ks,_,r=>by
    rw [List.map_cons] at r
    cases r with
    | cons h t=>exact .cons (uP h) (rY t)
abbrev KT (H:Hp):List (List Key×V)→List (List Key×Addr×Value)→Prop:=Paired fun p q=>p.1=q.1∧H q.2.1=some (.tup (p.1.map kV))∧RelV p.2 q.2.2
theorem KT.val {H:Hp} {kvs:List (List Key×V)} {xs:List (List Key×Addr×Value)} (r:KT H kvs xs) (k:List Key):vY (qJ kvs k) ((atKey xs k).map (·.2)):=by
  induction r with
  | nil=>exact True.intro
  | @cons p q ps qs h t ih =>
    obtain ⟨h1,_,h2⟩:=h
    by_cases e:p.1=k
    · have e':q.1=k:=h1.symm.trans e
      have b:atKey (q :: qs) k=some q.2:=by simp [atKey,List.find?_cons,e']
      rw [uN e,b];exact h2
    · have e':¬ q.1=k:=fun z=>e (h1.trans z)
      have b:atKey (q :: qs) k=atKey qs k:=by simp [atKey,List.find?_cons,e']
      rw [uO e,b];exact ih
theorem KT.repl {H:Hp} {kvs:List (List Key×V)} {xs:List (List Key×Addr×Value)} (r:KT H kvs xs) (k:List Key) {y:V} {u:Value} (ry:RelV y u) :
    KT H (kvs.map fun kv=>if kv.1=k then (kv.1,y) else kv) (xs.map (putAt k u)):=by
  induction r with
  | nil=>exact .nil
  | @cons p q ps qs h t ih =>
    rw [List.map_cons,List.map_cons]
    refine .cons ?_ ih
    obtain ⟨h1,h2,h3⟩:=h
    unfold putAt
    by_cases e:p.1=k
    · rw [if_pos e,if_pos (h1.symm.trans e)];exact ⟨h1,h2,ry⟩
    · rw [if_neg e,if_neg (fun z=>e (h1.trans z))];exact ⟨h1,h2,h3⟩
theorem KT.put {H:Hp} {kvs:List (List Key×V)} {xs:List (List Key×Addr×Value)} (r:KT H kvs xs) (k:List Key) {b:Addr} {y:V} {u:Value} (hb:H b=some (.tup (k.map kV))) (ry:RelV y u) :
    KT H (putK kvs k y) (storedH xs k b u):=by
  have e:(kvs.any fun kv=>decide (kv.1=k))=(atKey xs k).isSome:=by
    rw [yW,(r.val k).jD,Option.isSome_map]
  unfold putK storedH
  rw [e]
  by_cases q:(atKey xs k).isSome=true
  · rw [if_pos q,if_pos q];exact r.repl k ry
  · rw [if_neg q,if_neg q];exact Paired.snoc r ⟨rfl,hb,ry⟩
theorem KT.keeps {H H':Hp} {kvs:List (List Key×V)} {xs:List (List Key×Addr×Value)} (r:KT H kvs xs) (ht:∀ b ys,H b=some (.tup ys)→H' b=some (.tup ys)):KT H' kvs xs :=
  Paired.am7 r fun _ _ z=>⟨z.1,ht _ _ z.2.1,z.2.2⟩
section
variable {P:Program} {w:World} {H:Hp} {h:Heap} {a:Addr}
theorem akZ {u:HO} (ok:mW P w H h) (e:Rd H a u):cG P w H h a u:=e.ok ok
theorem yZ {kvs:List (Key×V)} (ok:mW P w H h) (e:Rd H a (.dK kvs)):kvs.length≤sizeLine∧(a == sysModules)=false∧∃ vs,KV kvs vs∧h.DictOf (aH P w) a vs :=
  show cG P w H h a (.dK kvs) from akZ ok e
theorem a9D {kvs:List (Key×V)} (ok:mW P w H h) (e:H a=some (.dK kvs)):kvs.length≤sizeLine∧(a == sysModules)=false∧∃ vs,KV kvs vs∧h.DictOf (aH P w) a vs:=yZ ok (.inl e)
theorem qK {ks:List Key} (ok:mW P w H h) (e:H a=some (.tup (ks.map kV))):(tupleKind (aH P w)).is h ks a:=by
  obtain ⟨_,its,r,o,h1,h2,n,h3⟩:=(show cG P w H h a (.tup (ks.map kV)) from ok a _ e)
  exact ⟨o,its.toArray,n,h1,h2,h3,by simpa using rY r⟩
theorem z6 {kvs:List (List Key×V)} (ok:mW P w H h) (e:Rd H a (.dT kvs)):kvs.length≤sizeLine∧(a == sysModules)=false ∧
    ∃ xs,KT H kvs xs∧h.DictOfH (tupleKind (aH P w)) a xs:=by
  obtain ⟨z,y,xs,r,o,es,ep,h1,h2,h3,h4,h5⟩:=(show cG P w H h a (.dT kvs) from akZ ok e)
  refine ⟨z,y,xs,r,o,es,ep,h1,h2,h3,h4,fun x hx=>?_,h5⟩
  have all:∀ {l:List (List Key×V)} {m:List (List Key×Addr×Value)},KT H l m→∀ x∈m,(tupleKind (aH P w)).is h x.1 x.2.1:=by
    intro l m q
    induction q with
    | nil=>intro x hx;exact nomatch hx
    | @cons p q ps qs hq t ih =>
      intro x hx
      rcases List.mem_cons.mp hx with e | hx
      · subst e
        exact qK ok (by rw [← hq.1];exact hq.2.1)
      · exact ih x hx
  exact all r x hx
theorem a9E {kvs:List (List Key×V)} (ok:mW P w H h) (e:H a=some (.dT kvs)):kvs.length≤sizeLine∧(a == sysModules)=false ∧
    ∃ xs,KT H kvs xs∧h.DictOfH (tupleKind (aH P w)) a xs:=z6 ok (.inl e)
end
def tZ (H:Hp) (a:Addr) (y:V) (r:Option V):Prop :=
  (∃ kvs k,Rd H a (.dK kvs)∧y=kV k∧r=qJ kvs k)∨∃ kvs k b,Rd H a (.dT kvs)∧y = .ref b∧H b=some (.tup (k.map kV))∧r=qJ kvs k
def abF (H:Hp) (a:Addr) (y v:V) (H':Hp):Prop :=
  (∃ kvs k,H a=some (.dK kvs)∧y=kV k∧kvs.length < sizeLine∧H'=upd H a (.dK (putK kvs k v))) ∨
  ∃ kvs k b,H a=some (.dT kvs)∧y = .ref b∧H b=some (.tup (k.map kV))∧kvs.length < sizeLine∧H'=upd H a (.dT (putK kvs k v))
theorem tZ.k {H:Hp} {a:Addr} {kvs:List (Key×V)} {k:Key} (e:H a=some (.dK kvs)):tZ H a (kV k) (qJ kvs k) := .inl ⟨kvs,k,.inl e,rfl,rfl⟩
theorem tZ.t {H:Hp} {a b:Addr} {kvs:List (List Key×V)} {k:List Key} (e:H a=some (.dT kvs)) (eb:H b=some (.tup (k.map kV))):tZ H a (.ref b) (qJ kvs k) := .inr ⟨kvs,k,b,.inl e,rfl,eb,rfl⟩
theorem abF.k {H:Hp} {a:Addr} {kvs:List (Key×V)} {k:Key} {v:V} (e:H a=some (.dK kvs)) (hl:kvs.length < sizeLine):abF H a (kV k) v (upd H a (.dK (putK kvs k v))) := .inl ⟨kvs,k,e,rfl,hl,rfl⟩
theorem abF.t {H:Hp} {a b:Addr} {kvs:List (List Key×V)} {k:List Key} {v:V} (e:H a=some (.dT kvs)) (eb:H b=some (.tup (k.map kV))) (hl:kvs.length < sizeLine) :
    abF H a (.ref b) v (upd H a (.dT (putK kvs k v))) := .inr ⟨kvs,k,b,e,rfl,eb,hl,rfl⟩
section
variable {X:Cx} {pins:List (Addr×Obj)} {σ:St} {H:Hp} {s:Shared} {a:Addr} {y v:V} {u r:Value} {o:Option V} {A:Around} {E:Value→Shared→Prop}
theorem Inv.big (I:Inv X pins σ H s):sysModules < s.heap.objs.size:=by
  have h:mainGlobals < s.heap.objs.size:=(I.mod.glob.keeps I.bk).lt
  exact Nat.lt_trans (by decide) h
theorem abG {Q:Value→Shared→Prop} (hu:A.units+1 < cLine) (I:Inv X pins σ H s) (g:tZ H a y (some v)) (ry:RelV y u) (h:∀ w' s',Inv X pins σ H s'→RelV v w'→Q w' s') :
    wpAny (model X.prog X.w) A (getItem (.ref a) u) Q E s:=by
  rcases g with ⟨kvs,k,e,ey,l⟩ | ⟨kvs,k,b,e,ey,eb,l⟩
  · subst ey
    obtain ⟨z,hd,vs,rel,dd⟩:=yZ I.hok e
    obtain ⟨w',hw,rw'⟩:=vY.some_of (v:=v) (o:=valueAt vs k) (by rw [l];exact rel.val k)
    exact wpAny_getItem_of (uP ry) dd.mapOf hw (h w' _ (I.tok _) rw')
  · subst ey
    cases (show u=Value.ref b from ry)
    obtain ⟨z,hd,xs,rel,dd⟩:=z6 I.hok e
    obtain ⟨w',hw,rw'⟩:=vY.some_of (v:=v) (o:=(atKey xs k).map (·.2)) (by rw [l];exact rel.val k)
    obtain ⟨p,hp,hp2⟩:=Option.map_eq_some_iff.mp hw
    refine wpAny_getItem_heap (tupleKind_room_in1 hu) (qK I.hok eb) dd hp ?_
    rw [hp2]
    exact h w' _ (I.tok _) rw'
theorem axU {Q:Value→Shared→Prop} (hu:A.units+1 < cLine) (I:Inv X pins σ H s) (g:tZ H a y o) (ry:RelV y u) (h:∀ s',Inv X pins σ H s'→Q (.bool o.isSome) s') :
    wpAny (model X.prog X.w) A (compareOp .In u (.ref a)) Q E s:=by
  rcases g with ⟨kvs,k,e,ey,l⟩ | ⟨kvs,k,b,e,ey,eb,l⟩
  · subst ey
    obtain ⟨z,hd,vs,rel,dd⟩:=yZ I.hok e
    refine wpAny_in_of (uP ry) hd dd.mapOf ?_
    rw [← (rel.val k).jD,← l]
    exact h _ (I.tok _)
  · subst ey
    cases (show u=Value.ref b from ry)
    obtain ⟨z,hd,xs,rel,dd⟩:=z6 I.hok e
    refine wpAny_in_heap (tupleKind_room_in1 hu) (qK I.hok eb) hd dd ?_
    have q:=(rel.val k).jD
    rw [Option.isSome_map] at q
    rw [← q,← l]
    exact h _ (I.tok _)
theorem ahK {Q:Value→Shared→Prop} (hu:A.units+1 < cLine) (I:Inv X pins σ H s) (g:tZ H a y o) (ry:RelV y u) (h:∀ s',Inv X pins σ H s'→Q (.bool (!o.isSome)) s') :
    wpAny (model X.prog X.w) A (compareOp .NotIn u (.ref a)) Q E s:=by
  rcases g with ⟨kvs,k,e,ey,l⟩ | ⟨kvs,k,b,e,ey,eb,l⟩
  · subst ey
    obtain ⟨z,hd,vs,rel,dd⟩:=yZ I.hok e
    refine wpAny_notIn_of (uP ry) hd dd.mapOf ?_
    rw [← (rel.val k).jD,← l]
    exact h _ (I.tok _)
  · subst ey
    cases (show u=Value.ref b from ry)
    obtain ⟨z,hd,xs,rel,dd⟩:=z6 I.hok e
    refine wpAny_notIn_heap (tupleKind_room_in1 hu) (qK I.hok eb) hd dd ?_
    have q:=(rel.val k).jD
    rw [Option.isSome_map] at q
    rw [← q,← l]
    exact h _ (I.tok _)
theorem lR {h':Heap} {t':Nat} {ob:HO} (I:Inv X pins σ H s) (mu:Mut (H a)) (hs:Heap.SameBut a s.heap h') (he:∃ q,h'.get? a=some q) (new:cG X.prog X.w (upd H a ob) h' a ob) :
    Inv X pins σ (upd H a ob) { s with heap:=h',toks:=t' } :=
  I.write (x:=a) (e:=a) mu (.inl rfl) (fun b q hb z=>(hs.2 b hb).trans z) he new
theorem a3L {P:Program} {w:World} {H':Hp} {h':Heap} {kvs:List (Key×V)} {vs:List (Key×Value)} (z:kvs.length≤sizeLine) (hd:(a == sysModules)=false) (rel:KV kvs vs) (dd:h'.DictOf (aH P w) a vs) :
    cG P w H' h' a (.dK kvs):=⟨z,hd,vs,rel,dd⟩
end
section
variable {X:Cx} {pins:List (Addr×Obj)} {σ:St} {H:Hp} {s:Shared} {a:Addr} {kvs:List (Key×V)} {k:Key} {u:Value} {A:Around} {E:Value→Shared→Prop}
theorem arE {Q:Unit→Shared→Prop} (I:Inv X pins σ H s) (e:H a=some (.dK kvs)) (ry:RelV (kV k) u) (l:(qJ kvs k).isSome=true) (h:∀ s',Inv X pins σ (upd H a (.dK (pH kvs k))) s'→Q () s') :
    wpAny (model X.prog X.w) A (delItem (.ref a) u) Q E s:=by
  obtain ⟨z,hd,vs,rel,dd⟩:=a9D I.hok e
  refine wpAny_delItem_slot dd.typeIs (by decide) PySem.F.slot_dict_delitem
    (call_meetsIn PySem.F.slot_dict_delitem dd.typeIs PySem.F.entry_dict_delitem (PySem.F.args_dict_delitem_2 _ _) (meets_dict_delitem_pairs (aH X.prog X.w) a (uP ry)) ⟨vs,dd,by rw [← rel.length];exact z,by rw [← (rel.val k).jD];exact l,fun h' dd' hs=>h _ ?_⟩)
  have he:∃ q,h'.get? a=some q:=let ⟨q,_,_,hq,_⟩:=dd';⟨q,hq⟩
  exact lR I (by rw [e];exact True.intro) hs he (a3L (Nat.le_trans (yX kvs k) z) hd (rel.drop k) dd')
theorem asN {v:V} {more:List Value} {Q:Value→Shared→Prop} (I:Inv X pins σ H s) (e:H a=some (.dK kvs)) (ry:RelV (kV k) u) (l:qJ kvs k=some v) (hm:more=[]∨∃ x,more=[x])
    (h:∀ w' s',Inv X pins σ (upd H a (.dK (pH kvs k))) s'→RelV v w'→Q w' s'):wpAny (model X.prog X.w) A (call (.builtin "dict.pop") (.ref a :: u :: more)) Q E s:=by
  obtain ⟨z,hd,vs,rel,dd⟩:=a9D I.hok e
  obtain ⟨w',hw,rw'⟩:=vY.some_of (v:=v) (o:=valueAt vs k) (by rw [← l];exact rel.val k)
  have hp:(keyPart u).isSome=true:=by
    cases k with
    | inl i=>obtain ⟨t,q⟩:=(show ∃ t,u=Value.int i t from ry);subst q;rfl
    | inr x=>obtain ⟨t,q⟩:=(show ∃ t,u=Value.str x t from ry);subst q;rfl
  have ha:argsOk "dict.pop" ⟨.ref a :: u :: more,[]⟩:=by
    rcases hm with q | ⟨x,q⟩
    · subst q;exact PySem.F.args_dict_pop_2 _ _
    · subst q;exact PySem.F.args_dict_pop_3 _ _ _
  refine call_meetsIn PySem.F.slot_dict_pop dd.typeIs PySem.F.entry_dict_pop ha (meets_dict_pop_there (aH X.prog X.w) a (uP ry) more hm hp)
    ⟨vs,w',dd,by rw [← rel.length];exact z,hw,fun h' dd' hs=>h w' _ ?_ rw'⟩
  have he:∃ q,h'.get? a=some q:=let ⟨q,_,_,hq,_⟩:=dd';⟨q,hq⟩
  exact lR I (by rw [e];exact True.intro) hs he (a3L (Nat.le_trans (yX kvs k) z) hd (rel.drop k) dd')
end
def an4 (i:Expr):Prop:=∀ ov iv,subscripted i false ov iv=operate [ov,iv] (getItem ov iv)
theorem ahL {prog:Program} {w:World} {A:Around} {E:Value→Shared→Prop} {s:Shared} {env:Env} {value slice:Expr} {pos:Pos} {T id:String} {Q:Value→Shared→Prop}
    (hl:typeLookup (.type T) "__getitem__" = pure (some (.builtin id))) (hs:an4 slice)
    (h:wpAny (model prog w) A (eval value env) (fun o s₁=>wpAny (model prog w) A (eval slice env) (fun i s₂=>s₂.TypeIs o T∧wpAny (model prog w) A (getItem o i) Q E s₂) E s₁) E s) :
    wpAny (model prog w) A (eval (.Subscript value slice pos) env) Q E s:=by
  refine Subscript_ (wpAny_mono h (fun o s₁ h₁=>wpAny_mono h₁ (fun i s₂ h₂=>?_) fun _ _ x=>x) fun _ _ x=>x)
  obtain ⟨hT,h₂⟩:=h₂
  unfold subscriptTail
  refine wpAny_bind ?_
  rw [getitemInPython_of_ne hT.not_modules]
  refine wpAny_bind (wpAny_specialOf hT hl ?_)
  have fin:wpAny (model prog w) A (subscripted slice false o i) (fun r s₃=>wpAny (model prog w) A (letTemporaryGo value o r >>= fun _=>pure r) Q E s₃) E s₂:=by
    rw [hs o i]
    exact wpAny_operating (wpAny_mono h₂ (fun r s₃ h₃=>wpAny_bind (wpAny_letTemporaryGo (wpAny_pure h₃))) fun _ _ x=>x)
  first
    | exact wpAny_pure (wpAny_bind fin)
    | exact wpAny_bind (wpAny_pure (wpAny_bind fin))
    | exact wpAny_bind fin
theorem a5Q {X:Cx} {pins:List (Addr×Obj)} {σ:St} {H:Hp} {s:Shared} {a:Addr} {y:V} {o:Option V} (I:Inv X pins σ H s) (g:tZ H a y o):s.TypeIs (.ref a) "dict" := by
  rcases g with ⟨kvs,k,e,_,_⟩ | ⟨kvs,k,b,e,_,_,_⟩
  · obtain ⟨_,_,vs,_,dd⟩:=yZ I.hok e
    exact dd.typeIs
  · obtain ⟨_,_,xs,_,dd⟩:=z6 I.hok e
    exact dd.typeIs
def asO (td ty:TE):TE:=fun σ H Q=>td σ H fun x H1=>ty σ H1 fun y H2=>∃ a v,x = .ref a∧tZ H2 a y (some v)∧Q v H2
section
variable {X:Cx} {o i e value:Expr} {pos pos' tpos:Pos} {td ty tv:TE}
theorem ahM (hu:X.A.units+1 < cLine) (ho:PE X o td) (hi:PE X i ty) (hs:an4 i):PE X (.Subscript o i pos) (asO td ty):=by
  intro pins s σ H Q I h _tk
  refine ahL PySem.F.slot_dict_getitem.lookup hs (cD (ho pins s σ H _ I h) fun u s1 ⟨x,H1,I1,rx,q1⟩=>cD (hi pins s1 σ H1 _ I1 q1) fun iv s2 ⟨y,H2,I2,ry,a,v,ex,g,q2⟩=>?_)
  subst ex
  obtain rfl:u=Value.ref a:=rx
  exact ⟨a5Q I2 g,abG hu I2 g ry fun w' s3 I3 rw'=>⟨v,H2,I3,rw',q2⟩⟩
end
theorem a5R {P:Program} {w:World} {H:Hp} (h:Heap) (hb:sysModules < h.objs.size):cG P w H (h.push { cls := .type "dict",data := .dict #[] }) h.objs.size (.dK []) :=
  ⟨Nat.zero_le _,beq_eq_false_iff_ne.mpr (Ne.symm (Nat.ne_of_lt hb)),[],.nil,Heap.DictOf.new h⟩
theorem ad4 {P:Program} {w:World} {H:Hp} (h:Heap) (hb:sysModules < h.objs.size):cG P w H (h.push { cls := .type "dict",data := .dict #[] }) h.objs.size (.dT []) :=
  ⟨Nat.zero_le _,beq_eq_false_iff_ne.mpr (Ne.symm (Nat.ne_of_lt hb)),[],.nil,_,#[],0,Heap.get?_push_size _ rfl,⟨rfl,rfl,rfl⟩,rfl,rfl,List.nodup_nil⟩
def an5:TE:=fun _ H Q=>∀ p,H p=none→Q (.ref p) (upd H p (.dK []))
def an6:TE:=fun _ H Q=>∀ p,H p=none→Q (.ref p) (upd H p (.dT []))
section
variable {X:Cx} {pos:Pos}
theorem ad5:PE X (.Dict [] [] pos) an5:=fun pins s σ H Q I h =>
  wpAny_Dict_empty ⟨.ref s.heap.objs.size,_,I.laid (a:=s.heap.objs.size) (o := .dK []) (t':=s.toks) (fun _ _ q=>Heap.get?_push_of_some _ q) (Nat.le_refl _) (a5R s.heap I.big),rfl,h _ (I.hok.fresh (Nat.le_refl _))⟩
theorem ad6:PE X (.Dict [] [] pos) an6:=fun pins s σ H Q I h =>
  wpAny_Dict_empty ⟨.ref s.heap.objs.size,_,I.laid (a:=s.heap.objs.size) (o := .dT []) (t':=s.toks) (fun _ _ q=>Heap.get?_push_of_some _ q) (Nat.le_refl _) (ad4 s.heap I.big),rfl,h _ (I.hok.fresh (Nat.le_refl _))⟩
end
structure M2 (X:Cx) (o:Expr) (m:Str) (apos:Pos) (e f:Expr) (cpos:Pos):Prop where
  base:attributeBase o m X.env (eval o X.env)=eval o X.env
  few:((backTo cpos (starEach [e,f] X.env)).all (fun x=>!x.1)&&(backToKw cpos (keywordEach [] X.env)).all (fun x=>x.1.isSome)
    && decide (([e,f]:List Expr).length+([]:List Keyword).length+(if ([]:List Keyword).isEmpty then 0 else 1) < 30))=true
  line:(apos.endLine == cpos.line)=true
  trees:backTo cpos (starEach [e,f] X.env)=[(false,eval e X.env),(false,eval f X.env)]
def IsD (H:Hp) (a:Addr):Prop:=(∃ kvs,Rd H a (.dK kvs))∨∃ kvs,Rd H a (.dT kvs)
theorem ad7 {X:Cx} {pins:List (Addr×Obj)} {σ:St} {H:Hp} {s:Shared} {a:Addr} (I:Inv X pins σ H s) (d:IsD H a) :
    s.TypeIs (.ref a) "dict" ∧ (∀ b,Value.ref a = .ref b→∃ ob,s.heap.get? b=some ob∧ob.dict=none)∧(a == sysModules)=false:=by
  rcases d with ⟨kvs,e⟩ | ⟨kvs,e⟩
  · obtain ⟨_,hd,vs,_,dd⟩:=yZ I.hok e
    refine ⟨dd.typeIs,fun b q=>?_,hd⟩
    cases q
    obtain ⟨ob,_,_,h1,h2,_⟩:=dd
    exact ⟨ob,h1,h2.2.1⟩
  · obtain ⟨_,hd,xs,_,dd⟩:=z6 I.hok e
    refine ⟨dd.typeIs,fun b q=>?_,hd⟩
    cases q
    obtain ⟨ob,_,_,h1,h2,_⟩:=dd
    exact ⟨ob,h1,h2.2.1⟩
section
variable {X:Cx} {pins:List (Addr×Obj)} {σ:St} {H:Hp} {s:Shared} {a:Addr} {y d:V} {u r:Value} {o:Option V} {A:Around} {E:Value→Shared→Prop}
theorem an7 {Q:Value→Shared→Prop} (hu:A.units+1 < cLine) (I:Inv X pins σ H s) (g:tZ H a y o) (ry:RelV y u) (rd:RelV d r) (h:∀ w' s',Inv X pins σ H s'→RelV (o.getD d) w'→Q w' s') :
    wpAny (model X.prog X.w) A (call (.builtin "dict.get") [.ref a,u,r]) Q E s:=by
  rcases g with ⟨kvs,k,e,ey,l⟩ | ⟨kvs,k,b,e,ey,eb,l⟩
  · subst ey
    obtain ⟨z,hd,vs,rel,dd⟩:=yZ I.hok e
    refine call_meetsIn PySem.F.slot_dict_get dd.typeIs PySem.F.entry_dict_get (PySem.F.args_dict_get_3 _ _ _) (meets_dict_get_default (aH X.prog X.w) a (uP ry) hd r) ⟨_,dd.mapOf,h _ _ (I.tok _) ?_⟩
    rw [l]
    exact (rel.val k).getD rd
  · subst ey
    cases (show u=Value.ref b from ry)
    obtain ⟨z,hd,xs,rel,dd⟩:=z6 I.hok e
    refine call_meetsIn PySem.F.slot_dict_get dd.typeIs PySem.F.entry_dict_get (PySem.F.args_dict_get_3 _ _ _) (meetsH_dict_get_default (tupleKind (aH X.prog X.w)) a b hd r) ⟨tupleKind_room_in1 hu,k,xs,qK I.hok eb,dd,h _ _ (I.tok _) ?_⟩
    rw [l]
    exact (rel.val k).getD rd
end
def an8 (td ty tx:TE):TE:=fun σ H Q=>td σ H fun x H1=>∃ a,x = .ref a∧IsD H1 a∧ty σ H1 fun y H2=>tx σ H2 fun z H3=>∃ o,tZ H3 a y o∧Q (o.getD z) H3
section
variable {X:Cx} {o e f:Expr} {apos cpos:Pos} {td ty tx:TE}
theorem ad8 (hu:X.A.units+1 < cLine) (ho:PE X o td) (he:PE X e ty) (hf:PE X f tx) (m:M2 X o "get" apos e f cpos):PE X (.Call (.Attribute o "get" apos) [e,f] [] cpos) (an8 td ty tx):=by
  intro pins s σ H Q I h _tk
  refine wpAny_Call_method m.base m.few m.line PySem.F.plainAttrs_dict PySem.F.slot_dict_get PySem.F.type_dict_get (cD (ho pins s σ H _ I h) fun u s1 ⟨x,H1,I1,rx,a,ex,d,q1⟩=>?_)
  subst ex
  obtain rfl:u=Value.ref a:=rx
  obtain ⟨t1,t2,_⟩:=ad7 I1 d
  refine ⟨t1,t2,?_⟩
  rw [m.trees]
  refine Calls.callWith_builtin rfl (Calls.evalArgs_plain (Calls.spliced_cons (cD (he pins s1 σ H1 _ I1 q1) fun iv s2 ⟨y,H2,I2,ry,q2⟩ =>
    Calls.spliced_cons (cD (hf pins s2 σ H2 _ I2 q2) fun fv s3 ⟨z,H3,I3,rz,ov,g,q3⟩=>Calls.spliced_nil ?_))))
  exact an7 hu I3 g ry rz fun w' s4 I4 rw'=>⟨_,H3,I4,rw',q3⟩
end
section
variable {X:Cx} {pins:List (Addr×Obj)} {σ:St} {H:Hp} {s:Shared} {a:Addr} {kvs:List (Key×V)} {A:Around} {E:Value→Shared→Prop}
end
section
variable {X:Cx} {pins:List (Addr×Obj)} {σ:St} {H:Hp} {s:Shared} {a:Addr} {y:V} {u:Value} {A:Around} {E:Value→Shared→Prop}
end
end L2
namespace HT
open PySem PyProof.Rows
def lexLt:List Int→List Int→Bool
  | [],[]=>false
  | [],_ :: _=>true
  | _ :: _,[]=>false
  | x :: xs,y :: ys=>if x=y then lexLt xs ys else decide (x < y)
theorem cN (x y:Int) (xs ys:List Int):lexLt (x :: xs) (y :: ys)=if x=y then lexLt xs ys else decide (x < y):=rfl
theorem a0Y:lexLt [] []=false:=rfl
theorem z7 (y:Int) (ys:List Int):lexLt [] (y :: ys)=true:=rfl
theorem z8 (x:Int) (xs:List Int):lexLt (x :: xs) []=false:=rfl
theorem ad9 (A:Around) (s:Shared) (a:Int) (t:Tok) (c:Int) (u:Tok):∃ e,SeqAt.EqAt A s (.int a t) (.int c u) e∧(e=true↔a=c) :=
  ⟨(a == c),SeqAt.EqAt.int_int a t c u,by simp⟩
theorem a5S (A:Around) (s:Shared) (a:Int) (t:Tok) (c:Int) (u:Tok) (prog:Program) (w:World) (E:Value→Shared→Prop) (Q:Value→Shared→Prop) (h:Q (.bool (decide (a < c))) s) :
    wpAny (model prog w) A (richCompare .Lt (.int a t) (.int c u)) Q E s :=
  (PyProof.Rows.lt_int h:wpAny (model prog w) A (compareOp .Lt (.int a t) (.int c u)) Q E s)
section
open PySem.SeqAt
open PySem.AutoSeq1 (wpAny_loadPart')
open PySem.MeetsSeq PySem.MeetsSeq2 PySem.MeetsSeq3
theorem a0Z (l b:Addr) (items items2:Array Value) (n n2:Nat) (dd dd2:Option Addr) (sl sl2:Array (Option Value)) (ns ms:List Int) (hi:IntsAre items.toList ns) (hj:IntsAre items2.toList ms) :
    Meets (Builtin.«tuple.__lt__» ⟨[.ref l,.ref b],[]⟩)
      (fun _ R s=>s.heap.get? l=some { cls := .type "tuple",dict:=dd,data := .seq items n,slots:=sl }∧s.heap.get? b=some { cls := .type "tuple",dict:=dd2,data := .seq items2 n2,slots:=sl2 } ∧
        R (.ok (.ret (.bool (lexLt ns ms)))) s) :=
  .of_wp fun prog w A R s h=>by
    obtain ⟨hp,g,d,tk,os⟩:=s;obtain ⟨hl,hb,h⟩:=h
    have f2:=AutoSeq1.sub_tuple_tuple
    have z1:items.size=ns.length:=by rw [← hi.length];simp
    have z2:items2.size=ms.length:=by rw [← hj.length];simp
    wp_walk using wpAny_loadPart' hl,wpAny_loadPart' hb,wpAny_forIn_list _ (fun rest b s'=>b.1=none∧s'=⟨hp,g,d,tk,os⟩∧∃ (vs ws:List Value) (ns' ms':List Int),rest=vs.zip ws ∧
      IntsAre vs ns'∧IntsAre ws ms'∧ns'.length+items2.size=ms'.length+items.size∧R (.ok (.ret (.bool (lexLt ns' ms')))) ⟨hp,g,d,tk,os⟩) _
    case turn =>
      rintro ⟨y,x⟩ rest b s' ⟨hb',rfl,vs,ws,ns',ms',hz,hvi,hwi,hlen,hR⟩
      cases hvi with
      | nil=>rw [List.zip_nil_left] at hz;cases hz
      | cons a t axX =>
        cases hwi with
        | nil=>rw [List.zip_nil_right] at hz;cases hz
        | cons c u axY =>
          rw [List.zip_cons_cons] at hz
          injection hz with hyx hrest
          injection hyx with hy hx
          subst hy hx
          rw [cN] at hR
          simp only [List.length_cons] at hlen
          obtain ⟨e,he,hiff⟩:=ad9 A.in1 ⟨hp,g,d,tk,os⟩ a t c u
          refine wpAny_bind (he prog w _ _ ?_)
          cases e with
          | true =>
            rw [if_pos (hiff.mp rfl)] at hR
            wp_walk
            exact ⟨rfl,rfl,_,_,_,_,hrest,axX,axY,by omega,hR⟩
          | false =>
            rw [if_neg (fun q=>absurd (hiff.mpr q) Bool.false_ne_true)] at hR
            have hri:=a5S A.in1 ⟨hp,g,d,tk,os⟩ a t c u prog w
            wp_walk using hri
            exact ⟨_,rfl,by simpa using hR⟩
    case fin =>
      rintro ⟨b1,b2⟩ s' ⟨hb',rfl,vs,ws,ns',ms',hz,hvi,hwi,hlen,hR⟩
      simp only at hb'
      subst hb'
      have hv:lexLt ns' ms'=decide (items.size < items2.size):=by
        cases hvi with
        | nil =>
          cases hwi with
          | nil =>
            simp only [List.length_nil] at hlen
            rw [a0Y]
            exact (decide_eq_false (by omega)).symm
          | cons c u hw =>
            simp only [List.length_nil,List.length_cons] at hlen
            rw [z7]
            exact (decide_eq_true (by omega)).symm
        | cons a t hv =>
          cases hwi with
          | nil =>
            simp only [List.length_nil,List.length_cons] at hlen
            rw [z8]
            exact (decide_eq_false (by omega)).symm
          | cons c u hw =>
            rw [List.zip_cons_cons] at hz
            cases hz
      rw [hv] at hR
      wp_walk
      exact ⟨_,rfl,by simpa [Builtin.Tuple.tupleCompareSizes] using hR⟩
    case h =>
      exact ⟨rfl,rfl,items.toList,items2.toList,ns,ms,rfl,hi,hj,by omega,h⟩
end
section
variable {prog:Program} {w:World} {A:Around} {E:Value→Shared→Prop} {s:Shared}
theorem z9 {l b:Addr} {items items2:Array Value} {ns ms:List Int} {Q:Value→Shared→Prop} (hl:IsTup s.heap l items) (hb:IsTup s.heap b items2) (hi:IntsAre items.toList ns) (hj:IntsAre items2.toList ms)
    (hu:A.units < cLine) (h:Q (.bool (lexLt ns ms)) s):wpAny (model prog w) A (compareOp .Lt (.ref l) (.ref b)) Q E s:=by
  obtain ⟨⟨cls,dd,data,sl⟩,ho,hc,n,hd⟩:=id hl
  obtain ⟨⟨cls2,dd2,data2,sl2⟩,ho2,hc2,n2,hd2⟩:=id hb
  simp only at hc hd hc2 hd2
  subst hc hd hc2 hd2
  exact richCompare_meets_room (op := .Lt) ⟨_,ho,rfl⟩ ⟨_,ho2,rfl⟩ PySem.F.slot_tuple_lt PySem.F.entry_tuple_lt (PySem.F.args_tuple_lt_2 _ _) (a0Z l b items items2 n n2 dd dd2 sl sl2 ns ms hi hj)
    ⟨ho,ho2,show Value.bool (lexLt ns ms)≠Value.notImplemented∧Q (.bool (lexLt ns ms)) s from ⟨(fun x=>nomatch x),h⟩⟩ hu
theorem ahN {t b:Addr} {vs ws:List Value} {Q:Value→Shared→Prop} (ht:IsTup s.heap t vs.toArray) (hb:IsTup s.heap b ws.toArray) (hv:vs≠[])
    (h1:ws=[]→Q (.ref t) s) (h2:ws≠[]→Q (.ref s.heap.objs.size) { s with heap:=s.heap.push { cls := .type "tuple",data := .seq (vs++ws).toArray } })
    (hsz:vs.length+ws.length≤sizeLine):wpAny (model prog w) A (binaryOp .Add (.ref t) (.ref b)) Q E s:=by
  obtain ⟨⟨cls,dd,data,sl⟩,ho,hc,n,hd⟩:=id ht
  obtain ⟨⟨cls2,dd2,data2,sl2⟩,ho2,hc2,n2,hd2⟩:=id hb
  simp only at hc hd hc2 hd2
  subst hc hd hc2 hd2
  have e:vs.toArray++ws.toArray=(vs++ws).toArray:=by simp
  by_cases hw:ws=[]
  · exact concat_meets ⟨_,ho,rfl⟩ ⟨_,ho2,rfl⟩ noFill_tuple_add seq_tuple_add PySem.F.slot_tuple_add PySem.F.entry_tuple_add (PySem.F.args_tuple_add_2 _ _)
      (tuple_addW1 t b vs.toArray ws.toArray n n2 dd dd2 sl sl2 (by simpa using hv) (by simp [hw])) ⟨ho,ho2,h1 hw⟩
  · refine concat_meets ⟨_,ho,rfl⟩ ⟨_,ho2,rfl⟩ noFill_tuple_add seq_tuple_add PySem.F.slot_tuple_add PySem.F.entry_tuple_add (PySem.F.args_tuple_add_2 _ _)
      (tuple_addW2 t b vs.toArray ws.toArray n n2 dd dd2 sl sl2 (by simpa using hv) (by simpa using hw) (by rw [List.size_toArray,List.size_toArray];exact hsz)) ⟨ho,ho2,?_⟩
    rw [e]
    exact h2 hw
def fZ (n d:Nat):Option Int→Nat
  | none=>d
  | some v=>if v < 0 then (v+(n:Int)).toNat else min v.toNat n
theorem an9 (n d:Nat) (hd:d≤n) (o:Option Int):fZ n d o≤n:=by
  cases o with
  | none=>exact hd
  | some v =>
    show (if v < 0 then (v+(n:Int)).toNat else min v.toNat n)≤n
    by_cases hv:v < 0
    · rw [if_pos hv];omega
    · rw [if_neg hv];exact Nat.min_le_right _ _
theorem a9F (v:Int) (n d:Nat):(if v < 0 then max (v+(n:Int)) 0 else min v (n:Int))=((fZ n d (some v):Nat):Int):=by
  show (if v < 0 then max (v+(n:Int)) 0 else min v (n:Int))=(((if v < 0 then (v+(n:Int)).toNat else min v.toNat n):Nat):Int)
  by_cases hv:v < 0
  · simp only [if_pos hv];omega
  · simp only [if_neg hv];omega
theorem a7Q (lo hi:Option Int) (n:Nat):Builtin.Slice.sliceAdjust lo hi 1 (n:Int)=(((fZ n 0 lo:Nat):Int),((fZ n n hi:Nat):Int)):=by
  have h1:¬ ((1:Int) < 0):=by omega
  unfold Builtin.Slice.sliceAdjust
  simp only [h1,if_false]
  refine Prod.ext ?_ ?_
  · cases lo with
    | none=>rfl
    | some v=>exact a9F v n 0
  · cases hi with
    | none=>rfl
    | some v=>exact a9F v n n
theorem a7R (i j:Nat):Builtin.Slice.slicePlaces (i:Int) (j:Int) 1=j - i:=by
  unfold Builtin.Slice.slicePlaces
  have h1:(1:Int) > 0:=by omega
  simp only [h1,if_true,Int.ediv_one]
  split <;> omega
theorem zA {v:Value} {o:Option Int} {Q:Option Int→Shared→Prop} (p:IsPart v o) (h:Q o s):wpAny (model prog w) A (Builtin.Slice.slicePartIndex v) Q E s:=by
  cases p with
  | none=>exact slicePart_none h
  | int i t=>exact slicePart_int h
theorem wC {sl:Addr} {vl vu:Value} {lo hi:Option Int} {n:Nat} {Q:Int×Int×Nat→Shared→Prop} (hs:s.heap.IsSliceOf sl vl vu .none) (pl:IsPart vl lo) (pu:IsPart vu hi)
    (h:Q (((fZ n 0 lo:Nat):Int),1,fZ n n hi - fZ n 0 lo) s):wpAny (model prog w) A (Builtin.Slice.sliceApplied (.ref sl) (pure (n:Int))) Q E s:=by
  obtain ⟨os,hos,hcs,hds⟩:=id hs
  unfold Builtin.Slice.sliceApplied Builtin.Slice.sliceFields
  refine wpAny_bind (wpAny_bind (wpAny_field hos hds (x:=vl) rfl (wpAny_bind (wpAny_field hos hds (x:=vu) rfl (wpAny_bind (wpAny_field hos hds (x := .none) rfl (wpAny_pure ?_)))))))
  refine wpAny_bind (slicePart_none ?_)
  show wpAny _ _ (if ((1:Int) == 0)=true then _ else _) _ _ s
  rw [if_neg (by decide)]
  refine wpAny_bind (zA pl (wpAny_bind (zA pu (wpAny_bind (wpAny_pure ?_)))))
  show wpAny _ _ (match Builtin.Slice.sliceAdjust lo hi 1 (n:Int) with | (lo,hi)=>pure (lo,(1:Int),Builtin.Slice.slicePlaces lo hi 1)) _ _ s
  rw [a7Q lo hi n]
  show wpAny _ _ (pure (((fZ n 0 lo:Nat):Int),(1:Int),Builtin.Slice.slicePlaces ((fZ n 0 lo:Nat):Int) ((fZ n n hi:Nat):Int) 1)) _ _ s
  rw [a7R]
  exact wpAny_pure h
theorem adA (xs:Array Value) (i k:Nat):((List.range k).filterMap fun (m:Nat)=>xs[((i:Int)+(m:Int) * 1).toNat]?).toArray=((xs.toList.drop i).take k).toArray:=by
  have e:(fun (m:Nat)=>xs[((i:Int)+(m:Int) * 1).toNat]?)=fun m=>xs[i+m]?:=by
    funext m
    have:((i:Int)+(m:Int) * 1).toNat=i+m:=by omega
    rw [this]
  rw [e]
  have:=pick_run xs i k
  rw [List.filterMap_map] at this
  have e2:((fun x=>xs[x]?) ∘ fun x=>i+x)=fun m=>xs[i+m]?:=rfl
  rw [e2] at this
  rw [this]
theorem uQ {t sl:Addr} {items:Array Value} {vl vu:Value} {lo hi:Option Int} {Q:Value→Shared→Prop} (ht:IsTup s.heap t items) (hs:s.heap.IsSliceOf sl vl vu .none) (pl:IsPart vl lo) (pu:IsPart vu hi)
    (hw:¬ (fZ items.size 0 lo=0∧fZ items.size items.size hi=items.size))
    (h:Q (.ref s.heap.objs.size) { s with heap:=s.heap.push { cls := .type "tuple",data := .seq ((items.toList.drop (fZ items.size 0 lo)).take (fZ items.size items.size hi - fZ items.size 0 lo)).toArray } })
    (hsz:items.size≤sizeLine):wpAny (model prog w) A (getItem (.ref t) (.ref sl)) Q E s:=by
  have a9G:sizeOk (.seq ((items.toList.drop (fZ items.size 0 lo)).take (fZ items.size items.size hi - fZ items.size 0 lo)).toArray):=by
    show ((items.toList.drop (fZ items.size 0 lo)).take (fZ items.size items.size hi - fZ items.size 0 lo)).toArray.size≤sizeLine
    rw [List.size_toArray,List.length_take,List.length_drop,Array.length_toList]
    omega
  have hj:fZ items.size items.size hi≤items.size:=an9 _ _ (Nat.le_refl _) hi
  obtain ⟨os,hos,hcs,hds⟩:=id hs
  have hTs:s.TypeIs (.ref sl) "slice" := ⟨os,hos,hcs⟩
  unfold getItem
  try with_reducible refine wpAny_holding ?_
  first | refine wpAny_bind (wpAny_pure ?_) | skip
  refine wpAny_bind (wpAny_sequenceKey ht.typeIs (by decide) ?_)
  refine wpAny_bind (wpAny_callSpecial?_slot (name:=Str.ofString "__getitem__") ht.typeIs PyProof.Rows.slot_tuple_getitem
    (wpAny_call_entry PyProof.Rows.slot_tuple_getitem ht.typeIs entry_tuple_getitem ?_ (args_tuple_getitem _ _)))
  show wpAny _ _ (Builtin.Tuple.tupleItemsOf (.ref t) >>= _) _ _ s
  refine wpAny_bind (tupleItemsOf_ ht ?_)
  refine wpAny_bind (wpAny_typeOf hTs ?_)
  rw [if_pos (by decide)]
  refine wpAny_bind (wC hs pl pu ?_)
  have hno:¬ ((((fZ items.size 0 lo:Nat):Int) == 0&&(1:Int) == 1&&(fZ items.size items.size hi - fZ items.size 0 lo) == items.size)=true):=by
    intro q
    rw [Bool.and_eq_true,Bool.and_eq_true] at q
    have q1:((fZ items.size 0 lo:Nat):Int)=0:=eq_of_beq q.1.1
    have q2:fZ items.size items.size hi - fZ items.size 0 lo=items.size:=eq_of_beq q.2
    exact hw ⟨by omega,by omega⟩
  show wpAny _ _ (if (((fZ items.size 0 lo:Nat):Int) == 0&&(1:Int) == 1&&(fZ items.size items.size hi - fZ items.size 0 lo) == items.size)=true then _ else _) _ _ s
  rw [if_neg hno,adA]
  first
    | exact wpAny_bind (m:=Builtin.Tuple.tupleExact _) (wpAny_newObj_type (wpAny_pure ⟨_,rfl,wpAny_pure h⟩) a9G)
    | exact wpAny_bind (m:=Builtin.Tuple.tupleExact _) (wpAny_newObj_type (wpAny_bind (wpAny_pure (wpAny_pure ⟨_,rfl,wpAny_pure h⟩))) a9G)
    | exact wpAny_bind (wpAny_bind (m:=Builtin.Tuple.tupleExact _) (wpAny_newObj_type (wpAny_pure (wpAny_pure ⟨_,rfl,wpAny_pure h⟩)) a9G))
    | exact wpAny_bind (wpAny_bind (m:=Builtin.Tuple.tupleExact _) (wpAny_newObj_type (wpAny_pure ⟨_,rfl,wpAny_pure h⟩) a9G))
end
end HT
namespace L2
open PySem PySem.Spec PyProof.Rows
abbrev TO:=St→Hp→(Option Int→Hp→Prop)→Prop
def PO (X:Cx) (e:Option Expr) (t:TO):Prop :=
  ∀ (pins:List (Addr×Obj)) (s:Shared) (σ:St) (H:Hp) (Q:Option Int→Hp→Prop),Inv X pins σ H s→t σ H Q →
    [Tk X.need s]→wpAny (model X.prog X.w) X.A (evalPart e X.env) (fun u s'=>∃ o H',Inv X pins σ H' s'∧IsPart u o∧Q o H') X.xe s
def ahO:TO:=fun _ H Q=>Q none H
def asQ (t:TE):TO:=fun σ H Q=>t σ H fun x H1=>∃ i,x = .int i∧Q (some i) H1
theorem intsAre_of {ns:List Int}:∀ {us:List Value},Vals (ns.map V.int) us→IntsAre us ns:=by
  induction ns with
  | nil=>intro us r;rw [List.map_nil] at r;cases r;exact .nil
  | cons n ns ih =>
    intro us r
    rw [List.map_cons] at r
    cases r with
    | cons r1 r2 =>
      obtain ⟨t,e⟩:=r1
      subst e
      exact .cons n t (ih r2)
section
variable {X:Cx} {e:Expr} {te:TE} {lo hi:Option Expr} {tl th:TO} {pos p2:Pos}
theorem ahP:PO X none ahO:=by
  intro pins s σ H Q I h _tk
  rw [evalPart_none]
  exact wpAny_pure ⟨none,H,I,.none,h⟩
theorem ahQ (h:PE X e te):PO X (some e) (asQ te):=by
  intro pins s σ H Q I hw
  rw [evalPart_some]
  refine cD (h pins s σ H _ I hw) fun u s1 ⟨x,H1,I1,r1,q1⟩=>?_
  obtain ⟨i,rfl,q⟩:=q1
  obtain ⟨t,rfl⟩:=r1
  exact ⟨some i,H1,I1,.int i t,q⟩
def SlR (X:Cx) (r:V→Option Int→Option Int→Hp→VK→Prop):Prop :=
  ∀ (pins:List (Addr×Obj)) (s:Shared) (σ:St) (H:Hp) (x:V) (v vl vu:Value) (lo hi:Option Int) (sl:Addr) (Q:VK),Inv X pins σ H s→RelV x v→s.heap.IsSliceOf sl vl vu .none→IsPart vl lo→IsPart vu hi→r x lo hi H Q →
    ∃ T id,typeLookup (.type T) "__getitem__" = pure (some (.builtin id))∧s.TypeIs v T∧wpAny (model X.prog X.w) X.A (getItem v (.ref sl)) (EP X pins σ Q) X.xe s
theorem SlR.or {r r':V→Option Int→Option Int→Hp→VK→Prop} (h:SlR X r) (h':SlR X r'):SlR X (fun x lo hi H Q=>r x lo hi H Q∨r' x lo hi H Q):=by
  intro pins s σ H x v vl vu lo hi sl Q I rx hs pl pu q
  rcases q with q | q
  · exact h pins s σ H x v vl vu lo hi sl Q I rx hs pl pu q
  · exact h' pins s σ H x v vl vu lo hi sl Q I rx hs pl pu q
def tSl (r:V→Option Int→Option Int→Hp→VK→Prop) (te:TE) (tl th:TO):TE:=fun σ H Q=>te σ H fun x H1=>tl σ H1 fun l H2=>th σ H2 fun u H3=>r x l u H3 Q
theorem adB {r:V→Option Int→Option Int→Hp→VK→Prop} (hr:SlR X r) (he:PE X e te) (hl:PO X lo tl) (hu:PO X hi th):PE X (.Subscript e (.Slice lo hi none p2) pos) (tSl r te tl th):=by
  intro pins s σ H Q I h _tk
  refine Subscript_ (cD (he pins s σ H _ I h) fun v s1 ⟨x,H1,I1,r1,q1⟩=>?_)
  refine wpAny_Slice (cD (hl pins s1 σ H1 _ I1 q1) fun vl s2 ⟨l,H2,I2,pl,q2⟩=>cD (hu pins s2 σ H2 _ I2 q2) fun vu s3 ⟨u,H3,I3,pu,q3⟩=>?_)
  rw [evalPart_none]
  refine wpAny_pure ?_
  have I4:Inv X pins σ H3 { s3 with heap:=s3.heap.push { cls := .type "slice",data := .fields #[vl,vu,.none] } }:=I3.kept (t':=s3.toks) fun b ob q=>Heap.get?_push_of_some _ q
  obtain ⟨T,id,hT,ht,hg⟩:=hr pins { s3 with heap:=s3.heap.push { cls := .type "slice",data := .fields #[vl,vu,.none] } } σ H3 x v vl vu l u s3.heap.objs.size Q I4 r1 (Heap.IsSliceOf.new ..) pl pu q3
  show wpAny (model X.prog X.w) X.A (subscriptTail e (.Slice lo hi none p2) v (.ref s3.heap.objs.size)) (EP X pins σ Q) X.xe { s3 with heap:=s3.heap.push { cls := .type "slice",data := .fields #[vl,vu,.none] } }
  exact tail_any (ops:=[.ref s3.heap.objs.size,v]) ht hT hg (by with_unfolding_all rfl)
def a1A (xs:List V) (lo hi:Option Int):List V:=(xs.drop (HT.fZ xs.length 0 lo)).take (HT.fZ xs.length xs.length hi - HT.fZ xs.length 0 lo)
theorem xD (xs:List V) (lo hi:Option Int):(a1A xs lo hi).length≤xs.length:=by
  unfold a1A
  rw [List.length_take,List.length_drop]
  omega
def axZ (K:PySem.W.Frag):V→Option Int→Option Int→Hp→VK→Prop:=fun x lo hi H Q=>∃ a xs,x = .ref a∧pF K H a xs ∧
  ¬ (HT.fZ xs.length 0 lo=0∧HT.fZ xs.length xs.length hi=xs.length)∧∀ p,H p=none→Q (.ref p) (upd H p (.tup (a1A xs lo hi)))
theorem anA:SlR X (axZ X.K):=by
  intro pins s σ H x v vl vu lo hi sl Q I rx hs pl pu h
  obtain ⟨a,xs,rfl,hx,hw,q⟩:=h
  cases rx
  obtain ⟨its,r,ht,hz⟩:=I.tuple hx
  have hlen:its.toArray.size=xs.length:=by rw [List.size_toArray];exact r.length.symm
  refine ⟨"tuple",_,PyProof.Rows.slot_tuple_getitem.lookup,ht.typeIs,?_⟩
  refine HT.uQ ht hs pl pu (by rw [hlen];exact hw) ?_ (by rw [hlen];exact hz)
  rw [hlen]
  refine ⟨.ref s.heap.objs.size,_,I.laid (t':=s.toks) (o := .tup (a1A xs lo hi)) (fun b ob q=>Heap.get?_push_of_some _ q) (Nat.le_refl _) ?_,rfl,q _ (I.hok.fresh (Nat.le_refl _))⟩
  exact ⟨Nat.le_trans (xD xs lo hi) hz,_,(r.drop (HT.fZ xs.length 0 lo)).take (HT.fZ xs.length xs.length hi - HT.fZ xs.length 0 lo),IsTup.new _ _⟩
def asR (K:PySem.W.Frag):R2:=fun x y H Q=>∃ a b xs ys,x = .ref a∧y = .ref b∧pF K H a xs∧pF K H b ys∧xs≠[]∧xs.length+ys.length≤sizeLine ∧
  (ys=[]→Q (.ref a) H)∧(ys≠[]→∀ p,H p=none→Q (.ref p) (upd H p (.tup (xs++ys))))
theorem Vals.uR {xs:List V} {us:List Value} (r:Vals xs us):us=[]↔xs=[]:=by
  cases r with
  | nil=>simp
  | cons _ _=>simp
theorem ahR:pG X (binaryOp .Add) (asR X.K):=by
  intro pins s σ H x y v u Q I rx ry h
  obtain ⟨a,b,xs,ys,rfl,rfl,ha,hb,hx,hz,q1,q2⟩:=h
  cases rx
  cases ry
  obtain ⟨its,r1,p1,_⟩:=I.tuple ha
  obtain ⟨its2,r2,p2,_⟩:=I.tuple hb
  refine HT.ahN p1 p2 (fun z=>hx (r1.uR.mp z)) (fun z=>⟨.ref a,H,I,rfl,q1 (r2.uR.mp z)⟩) (fun z=>?_) (by rw [← r1.length,← r2.length];exact hz)
  refine ⟨.ref s.heap.objs.size,_,I.laid (t':=s.toks) (o := .tup (xs++ys)) (fun b ob q=>Heap.get?_push_of_some _ q) (Nat.le_refl _) ?_,rfl,q2 (fun w=>z (r2.uR.mpr w)) _ (I.hok.fresh (Nat.le_refl _))⟩
  exact ⟨by rw [List.length_append];exact hz,_,r1.append r2,IsTup.new _ _⟩
end
end L2
namespace L2
open PySem PySem.Spec PyProof.Rows
def ixN (n:Nat) (i:Int):Option Nat:=if 0≤i then (if i < n then some i.toNat else none) else if -(n:Int)≤i then some (i+n).toNat else none
def uK {α:Type} (xs:List α) (i:Int):Option α:=(ixN xs.length i).bind fun j=>xs[j]?
theorem ahS {n:Nat} {i:Int} {j:Nat} (h:ixN n i=some j):seqIndex? i n=some j∧j < n∧-(n:Int)≤i∧i < n:=by
  unfold ixN at h
  by_cases h0:0≤i
  · rw [if_pos h0] at h
    by_cases h1:i < n
    · rw [if_pos h1] at h
      have e:i.toNat=j:=Option.some.inj h
      exact ⟨by rw [seqIndex_of h0 h1,e],by omega,by omega,h1⟩
    · rw [if_neg h1] at h;cases h
  · rw [if_neg h0] at h
    by_cases h1:-(n:Int)≤i
    · rw [if_pos h1] at h
      have e:(i+n).toNat=j:=Option.some.inj h
      exact ⟨by rw [seqIndex_neg (by omega) h1,e],by omega,h1,by omega⟩
    · rw [if_neg h1] at h;cases h
theorem a3M {α:Type} {xs:List α} {i:Int} {v:α} (h:uK xs i=some v):∃ j,seqIndex? i xs.length=some j∧xs[j]?=some v∧j < xs.length∧-(xs.length:Int)≤i∧i < xs.length:=by
  unfold uK at h
  cases e:ixN xs.length i with
  | none=>rw [e] at h;cases h
  | some j =>
    rw [e] at h
    obtain ⟨h1,h2,h3,h4⟩:=ahS e
    exact ⟨j,h1,h,h2,h3,h4⟩
def a3N (b:Expr):Prop:=∀ o i,subscripted b false o i=operate [o,i] (getItem o i)
def IxR (X:Cx) (r:R2):Prop :=
  ∀ (value slice:Expr) (pins:List (Addr×Obj)) (s:Shared) (σ:St) (H:Hp) (x y:V) (v u:Value) (Q:VK),Inv X pins σ H s→RelV x v→RelV y u→r x y H Q →
    subscripted slice false v u=operate [v,u] (getItem v u)→wpAny (model X.prog X.w) X.A (subscriptTail value slice v u) (EP X pins σ Q) X.xe s
def MtR (X:Cx) (id:String) (r:V→List V→Hp→VK→Prop):Prop :=
  ∀ (pins:List (Addr×Obj)) (s:Shared) (σ:St) (H:Hp) (x:V) (xs:List V) (v:Value) (us:List Value) (Q:VK),Inv X pins σ H s→RelV x v→Vals xs us→r x xs H Q →
    wpAny (model X.prog X.w) X.A (call (.builtin id) (v :: us)) (EP X pins σ Q) X.xe s
section
variable {X:Cx} {a b:Expr} {ta tb:TE} {pos:Pos}
theorem IxR.or {r r':R2} (h:IxR X r) (h':IxR X r'):IxR X (fun x y H Q=>r x y H Q∨r' x y H Q):=by
  intro value slice pins s σ H x y v u Q I rx ry q hs
  rcases q with q | q
  · exact h value slice pins s σ H x y v u Q I rx ry q hs
  · exact h' value slice pins s σ H x y v u Q I rx ry q hs
theorem MtR.or {id:String} {r r':V→List V→Hp→VK→Prop} (h:MtR X id r) (h':MtR X id r'):MtR X id (fun x xs H Q=>r x xs H Q∨r' x xs H Q):=by
  intro pins s σ H x xs v us Q I rx rs q
  rcases q with q | q
  · exact h pins s σ H x xs v us Q I rx rs q
  · exact h' pins s σ H x xs v us Q I rx rs q
theorem asT {r:R2} (hr:IxR X r) (ha:PE X a ta) (hb:PE X b tb) (hs:a3N b):PE X (.Subscript a b pos) (tOp r ta tb):=by
  intro pins s σ H Q I h _tk
  exact Subscript_ (amP ha hb I h fun v u s2 x y H2 I2 rx ry q=>hr a b pins s2 σ H2 x y v u Q I2 rx ry q (hs _ _))
def asU (K:PySem.W.Frag):R2:=fun x y H Q=>∃ p xs i v,x = .ref p∧y = .int i∧tE K H p xs∧uK xs i=some v∧Q v H
def asV (K:PySem.W.Frag):R2:=fun x y H Q=>∃ p xs i v,x = .ref p∧y = .int i∧pF K H p xs∧uK xs i=some v∧Q v H
def asW:R2:=fun x y H Q=>∃ z i c,x = .str z∧y = .int i∧z.length≤sizeLine∧uK z.cps.toList i=some c∧Q (.str ⟨#[c]⟩) H
theorem ahU:IxR X (asU X.K):=by
  intro value slice pins s σ H x y v u Q I rx ry h hs
  obtain ⟨p,xs,i,z,rfl,rfl,hq,he,q⟩:=h
  cases rx
  obtain ⟨t,rfl⟩:=ry
  obtain ⟨its,r,pl,hz⟩:=I.list hq
  obtain ⟨j,h1,h2,h3,h4,h5⟩:=a3M he
  obtain ⟨w,ew,rw'⟩:=r.get h2
  have hl:=r.length
  have hn:=yV
  have fin:EP X pins σ Q w s:=⟨z,H,I,rw',q⟩
  by_cases h0:0≤i
  · have hj:i.toNat=j:=by
      rw [seqIndex_of h0 h5] at h1
      exact Option.some.inj h1
    exact item_listR pl.isList h0 (by omega) (by rw [hj];simpa using ew) fin hs
  · have hj:(i+(its.toArray.size:Int)).toNat=j:=by
      rw [seqIndex_neg (by omega) h4] at h1
      rw [List.size_toArray,← hl]
      exact Option.some.inj h1
    exact subscriptTail_builtinR (x:=w) pl.isList.typeIs slot_list_getitem.lookup
      (wpAny_getItem_list_neg (Q:=fun r s'=>r=w∧EP X pins σ Q r s') pl.isList (by omega) (by rw [List.size_toArray] <;> omega) (by omega) (by rw [hj];simpa using ew) ⟨rfl,fin⟩) hs
theorem anB:IxR X (asV X.K):=by
  intro value slice pins s σ H x y v u Q I rx ry h hs
  obtain ⟨p,xs,i,z,rfl,rfl,hq,he,q⟩:=h
  cases rx
  obtain ⟨t,rfl⟩:=ry
  obtain ⟨its,r,pl,hz⟩:=I.tuple hq
  obtain ⟨j,h1,h2,h3,h4,h5⟩:=a3M he
  obtain ⟨w,ew,rw'⟩:=r.get h2
  have hl:=r.length
  have hn:=yV
  have fin:EP X pins σ Q w s:=⟨z,H,I,rw',q⟩
  exact subscriptTail_builtinR (x:=w) pl.typeIs slot_tuple_getitem.lookup
    (getItem_tuple (j:=j) (Q:=fun r s'=>r=w∧EP X pins σ Q r s') pl (by omega) (by omega) (by rw [List.size_toArray,← hl];exact h1) (by simpa using ew) ⟨rfl,fin⟩) hs
theorem anC:IxR X asW:=by
  intro value slice pins s σ H x y v u Q I rx ry h hs
  obtain ⟨z,i,c,rfl,rfl,hz,he,q⟩:=h
  obtain ⟨t,rfl⟩:=rx
  obtain ⟨t',rfl⟩:=ry
  obtain ⟨j,h1,h2,h3,h4,h5⟩:=a3M he
  have hl:z.cps.toList.length=z.length:=by simp [Str.length]
  rw [hl] at h1 h4 h5
  have hn:=yV
  exact tail_any (typeIs_str s z t) slot_str_getitem.lookup (getItem_str (c:=c) (by
    have e1:decide (i < -(2 ^ 63:Int))=false:=decide_eq_false (by omega)
    have e2:decide (i≥2 ^ 63)=false:=decide_eq_false (by omega)
    rw [e1,e2,Bool.or_false]) (by rw [h1];simpa using h2) ⟨.str ⟨#[c]⟩,H,I.tok _,⟨_,rfl⟩,q⟩) hs
def rIx (K:PySem.W.Frag):R2:=fun x y H Q=>asU K x y H Q∨asV K x y H Q∨asW x y H Q
theorem anD:IxR X (rIx X.K):=ahU.or (anB.or anC)
theorem Inv.lst {pins:List (Addr×Obj)} {σ:St} {H:Hp} {s:Shared} {p:Addr} {xs:List V} (I:Inv X pins σ H s) (h:H p=some (.lst xs)) :
    ∃ (its:List Value) (n:Nat),Vals xs its∧s.heap.get? p=some { cls := .type "list",data := .seq its.toArray n }∧xs.length≤sizeLine:=by
  obtain ⟨z,its,n,r,e⟩:=I.hok p _ h
  exact ⟨its,n,r,e,z⟩
theorem a3O (lo hi:Option Int) (n:Nat):(sliceBounds lo hi none n).1=((HT.fZ n 0 lo:Nat):Int)∧(sliceBounds lo hi none n).2.1=((HT.fZ n n hi:Nat):Int)∧(sliceBounds lo hi none n).2.2=1:=by
  refine ⟨?_,?_,rfl⟩
  · cases lo with
    | none=>simp [sliceBounds,HT.fZ]
    | some i =>
      simp only [sliceBounds,HT.fZ,Option.getD_none,show (1:Int) > 0 by decide,if_true]
      by_cases h:i < 0
      · simp only [h,if_true] <;> omega
      · simp only [h,if_false] <;> omega
  · cases hi with
    | none=>simp [sliceBounds,HT.fZ]
    | some i =>
      simp only [sliceBounds,HT.fZ,Option.getD_none,show (1:Int) > 0 by decide,if_true]
      by_cases h:i < 0
      · simp only [h,if_true] <;> omega
      · simp only [h,if_false] <;> omega
theorem a1B (its:List Value) (lo hi:Option Int):slicePick its.toArray lo hi none=((its.drop (HT.fZ its.length 0 lo)).take (HT.fZ its.length its.length hi - HT.fZ its.length 0 lo)).toArray:=by
  obtain ⟨h1,h2,h3⟩:=a3O lo hi its.toArray.size
  unfold slicePick
  rw [h1,h2,h3]
  simp only [sliceRange_one,pick_run,List.size_toArray] <;> rfl
def ay0 (K:PySem.W.Frag):V→Option Int→Option Int→Hp→VK→Prop:=fun x lo hi H Q=>∃ a xs,x = .ref a∧tE K H a xs∧∀ p,H p=none→Q (.ref p) (upd H p (.lst (a1A xs lo hi)))
theorem ahV:SlR X (ay0 X.K):=by
  intro pins s σ H x v vl vu lo hi sl Q I rx hs pl pu h
  obtain ⟨a,xs,rfl,hx,q⟩:=h
  cases rx
  obtain ⟨its,r,ht,hz⟩:=I.list hx
  have hlen:=r.length
  refine ⟨"list",_,slot_list_getitem.lookup,ht.isList.typeIs,?_⟩
  refine wpAny_getItem_list_slice ht.isList hs pl pu .none (by simp) ?_ (by rw [List.size_toArray] <;> omega)
  rw [a1B,← hlen]
  refine ⟨.ref s.heap.objs.size,_,I.laid (t':=s.toks) (o := .lst (a1A xs lo hi)) (fun b ob q=>Heap.get?_push_of_some _ q) (Nat.le_refl _) ?_,rfl,q _ (I.hok.fresh (Nat.le_refl _))⟩
  exact ⟨Nat.le_trans (xD xs lo hi) hz,_,0,(r.drop (HT.fZ xs.length 0 lo)).take (HT.fZ xs.length xs.length hi - HT.fZ xs.length 0 lo),Heap.get?_push_size _ rfl⟩
def pI:V→Bool
  | .non=>true
  | .bl _=>true
  | .int _=>true
  | .str _=>true
  | _=>false
def eqV:V→V→Bool
  | .non,.non=>true
  | .bl a,.bl b=>a == b
  | .bl a,.int b=>(if a then 1 else 0) == b
  | .int a,.bl b=>a == (if b then 1 else 0)
  | .int a,.int b=>a == b
  | .str a,.str b=>a == b
  | _,_=>false
theorem wD {A:Around} {s:Shared} {y x:V} {u v:Value} (ry:RelV y u) (rx:RelV x v) (fy:pI y=true) (fx:pI x=true):SeqAt.EqAt A s u v (eqV y x):=by
  cases y with
  | non =>
    cases ry
    cases x with
    | non=>cases rx;exact SeqAt.EqAt.same _
    | bl b=>cases rx;exact SeqAt.EqAt.none_bool b
    | int b=>obtain ⟨t,rfl⟩:=rx;exact SeqAt.EqAt.none_int b t
    | str b=>obtain ⟨t,rfl⟩:=rx;exact SeqAt.EqAt.none_str b t
    | _=>exact absurd (show false=true from fx) Bool.false_ne_true
  | bl a =>
    cases ry
    cases x with
    | non=>cases rx;exact SeqAt.EqAt.bool_none a
    | bl b=>cases rx;exact SeqAt.EqAt.bool_bool a b
    | int b=>obtain ⟨t,rfl⟩:=rx;exact SeqAt.EqAt.bool_int a b t
    | str b=>obtain ⟨t,rfl⟩:=rx;exact SeqAt.EqAt.bool_str a b t
    | _=>exact absurd (show false=true from fx) Bool.false_ne_true
  | int a =>
    obtain ⟨t',rfl⟩:=ry
    cases x with
    | non=>cases rx;exact SeqAt.EqAt.int_none a t'
    | bl b=>cases rx;exact SeqAt.EqAt.int_bool a t' b
    | int b=>obtain ⟨t,rfl⟩:=rx;exact SeqAt.EqAt.int_int a t' b t
    | str b=>obtain ⟨t,rfl⟩:=rx;exact SeqAt.EqAt.int_str a t' b t
    | _=>exact absurd (show false=true from fx) Bool.false_ne_true
  | str a =>
    obtain ⟨t',rfl⟩:=ry
    cases x with
    | non=>cases rx;exact SeqAt.EqAt.str_none a t'
    | bl b=>cases rx;exact SeqAt.EqAt.str_bool a t' b
    | int b=>obtain ⟨t,rfl⟩:=rx;exact SeqAt.EqAt.str_int a t' b t
    | str b=>obtain ⟨t,rfl⟩:=rx;exact SeqAt.EqAt.str_str a t' b t
    | _=>exact absurd (show false=true from fx) Bool.false_ne_true
  | _=>exact absurd (show false=true from fy) Bool.false_ne_true
def eqU (x:V) (u:Value):Bool:=match u with
  | .none=>eqV .non x
  | .bool b=>eqV (.bl b) x
  | .int i _=>eqV (.int i) x
  | .str z _=>eqV (.str z) x
  | _=>false
theorem adC {x y:V} {u:Value} (r:RelV y u) (f:pI y=true):eqU x u=eqV y x:=by
  cases y with
  | non=>cases r;rfl
  | bl b=>cases r;rfl
  | int i=>obtain ⟨t,rfl⟩:=r;rfl
  | str z=>obtain ⟨t,rfl⟩:=r;rfl
  | _=>exact absurd (show false=true from f) Bool.false_ne_true
theorem uT {x:V}:∀ {xs:List V} {us:List Value},Vals xs us→xs.all pI=true→us.any (eqU x)=xs.any fun y=>eqV y x
  | _,_,.nil,_=>rfl
  | y :: xs,u :: us,.cons r t,f=>by
    rw [List.all_cons,Bool.and_eq_true] at f
    rw [List.any_cons,List.any_cons,adC r f.1,uT t f.2]
theorem qL {A:Around} {s:Shared} {x:V} {v:Value} (rx:RelV x v) (fx:pI x=true):∀ {xs:List V} {us:List Value},Vals xs us→xs.all pI=true→∀ u∈us,SeqAt.EqAt A s u v (eqU x u)
  | _,_,.nil,_=>fun u hu=>by cases hu
  | y :: xs,u :: us,.cons r t,f=>fun u' hu=>by
    rw [List.all_cons,Bool.and_eq_true] at f
    rcases List.mem_cons.mp hu with rfl | hu
    · rw [adC r f.1];exact wD r rx f.1 fx
    · exact qL rx fx t f.2 u' hu
def inV (x:V) (xs:List V):Bool:=xs.any fun y=>eqV y x
def rIn (K:PySem.W.Frag) (neg:Bool):R2:=fun x y H Q=>∃ p xs,y = .ref p∧(tE K H p xs∨pF K H p xs)∧pI x=true∧xs.all pI=true∧Q (.bl (if neg then !inV x xs else inV x xs)) H
theorem abI:pG X (compareOp .In) (rIn X.K false):=by
  intro pins s σ H x y v u Q I rx ry h
  obtain ⟨p,xs,rfl,hq,fx,fs,q⟩:=h
  cases ry
  rcases hq with hq | hq
  · obtain ⟨its,r,pl,hz⟩:=I.list hq
    refine SeqAt.in_listAt (eqU x) pl.isList (fun w hw=>qL rx fx r fs w (by simpa using hw)) ⟨.bl _,H,I,rfl,?_⟩
    rw [show its.toArray.any (eqU x)=its.any (eqU x) by simp,uT r fs]
    exact q
  · obtain ⟨its,r,pl,hz⟩:=I.tuple hq
    refine SeqAt.in_tupleAt (eqU x) pl (fun w hw=>qL rx fx r fs w (by simpa using hw)) ⟨.bl _,H,I,rfl,?_⟩
    rw [show its.toArray.any (eqU x)=its.any (eqU x) by simp,uT r fs]
    exact q
theorem a3P:pG X (compareOp .NotIn) (rIn X.K true):=by
  intro pins s σ H x y v u Q I rx ry h
  obtain ⟨p,xs,rfl,hq,fx,fs,q⟩:=h
  cases ry
  rcases hq with hq | hq
  · obtain ⟨its,r,pl,hz⟩:=I.list hq
    refine SeqAt.notIn_listAt (eqU x) pl.isList (fun w hw=>qL rx fx r fs w (by simpa using hw)) ⟨.bl _,H,I,rfl,?_⟩
    rw [show its.toArray.any (eqU x)=its.any (eqU x) by simp,uT r fs]
    exact q
  · obtain ⟨its,r,pl,hz⟩:=I.tuple hq
    refine SeqAt.notIn_tupleAt (eqU x) pl (fun w hw=>qL rx fx r fs w (by simpa using hw)) ⟨.bl _,H,I,rfl,?_⟩
    rw [show its.toArray.any (eqU x)=its.any (eqU x) by simp,uT r fs]
    exact q
theorem a3Q:qG X (.builtin "len") (fun xs H Q=>∃ p ys,xs=[.ref p]∧(tE X.K H p ys∨pF X.K H p ys)∧Q (.int ys.length) H):=by
  intro pins s σ H xs us Q I r h
  obtain ⟨p,ys,rfl,hq,q⟩:=h
  obtain ⟨u,rfl,rx⟩:=vals1 r
  cases rx
  have hn:=yV
  rcases hq with hq | hq
  · obtain ⟨its,r',pl,hz⟩:=I.list hq
    have hlen:=r'.length
    exact Calls.call_len_list pl.isList (by simp only [List.size_toArray] <;> omega) ⟨.int ys.length,H,I.tok _,⟨s.toks+1,by rw [List.size_toArray,hlen]⟩,q⟩
  · obtain ⟨its,r',pl,hz⟩:=I.tuple hq
    have hlen:=r'.length
    exact len_tuple pl (by simp only [List.size_toArray] <;> omega) ⟨.int ys.length,H,I.tok _,⟨s.toks+1,by rw [List.size_toArray,hlen]⟩,q⟩
theorem a3R:qG X (.builtin "len") (fun xs H Q=>∃ z,xs=[.str z]∧z.length≤sizeLine∧Q (.int z.length) H):=by
  intro pins s σ H xs us Q I r h
  obtain ⟨z,rfl,hz,q⟩:=h
  obtain ⟨u,rfl,t,rfl⟩:=vals1 r
  have hn:=yV
  exact len_str (by omega) ⟨.int z.length,H,I.tok _,⟨_,rfl⟩,q⟩
theorem qG.or {f:Value} {r r':List V→Hp→VK→Prop} (h:qG X f r) (h':qG X f r'):qG X f (fun xs H Q=>r xs H Q∨r' xs H Q):=by
  intro pins s σ H xs us Q I rs q
  rcases q with q | q
  · exact h pins s σ H xs us Q I rs q
  · exact h' pins s σ H xs us Q I rs q
theorem a3S:qG X (.type "list") (fun xs H Q=>∃ p ys,xs=[.ref p]∧(tE X.K H p ys∨pF X.K H p ys)∧∀ l,H l=none→Q (.ref l) (upd H l (.lst ys))):=by
  intro pins s σ H xs us Q I r h
  obtain ⟨p,ys,rfl,hq,q⟩:=h
  obtain ⟨u,rfl,rx⟩:=vals1 r
  cases rx
  have fin:∀ (its:List Value),Vals ys its→ys.length≤sizeLine→∀ (h':Heap) (c':Nat),(∀ b o',s.heap.get? b=some o'→h'.get? b=some o') →
      h'.get? s.heap.objs.size=some { cls := .type "list",dict:=none,data := .seq its.toArray c',slots:=#[] }→EP X pins σ Q (.ref s.heap.objs.size) { s with heap:=h' }:=fun its r' hz h' c' kp e =>
    ⟨.ref s.heap.objs.size,_,I.laid (t':=s.toks) kp (Nat.le_refl _) (show cG X.prog X.w _ h' _ (.lst ys) from ⟨hz,its,c',r',e⟩),rfl,q _ (I.hok.fresh (Nat.le_refl _))⟩
  rcases hq with hq | hq
  · obtain ⟨its,r',pl,hz⟩:=I.list hq
    have hlen:=r'.length
    obtain ⟨o,ho,hc,n,hd⟩:=pl.isList
    exact call_list_seq p (.inl rfl) ho hc hd (fun h' c' kp e=>fin its r' hz h' c' kp e) (by simp only [List.size_toArray] <;> omega)
  · obtain ⟨its,r',pl,hz⟩:=I.tuple hq
    have hlen:=r'.length
    obtain ⟨o,ho,hc,n,hd⟩:=pl
    exact call_list_seq p (.inr rfl) ho hc hd (fun h' c' kp e=>fin its r' hz h' c' kp e) (by simp only [List.size_toArray] <;> omega)
theorem a1C:qG X (.type "tuple") (fun xs H Q=>∃ p ys,xs=[.ref p]∧((tE X.K H p ys∧∀ l,H l=none→Q (.ref l) (upd H l (.tup ys)))∨(pF X.K H p ys∧Q (.ref p) H))):=by
  intro pins s σ H xs us Q I r h
  obtain ⟨p,ys,rfl,h⟩:=h
  obtain ⟨u,rfl,rx⟩:=vals1 r
  cases rx
  rcases h with ⟨hq,q⟩ | ⟨hq,q⟩
  · obtain ⟨its,r',pl,hz⟩:=I.list hq
    have hlen:=r'.length
    refine call_tuple_list pl.isList (fun h' kp=>?_) (by simp only [List.size_toArray] <;> omega)
    have I1:Inv X pins σ H { s with heap:=h' }:=I.kept (t':=s.toks) kp
    have I2:Inv X pins σ (upd H h'.objs.size (.tup ys)) { s with heap:=h'.push { cls := .type "tuple",data := .seq its.toArray } } :=
      I1.laid (t':=s.toks) (fun b o e=>Heap.get?_push_of_some _ e) (Nat.le_refl _) (show cG X.prog X.w _ _ _ (.tup ys) from ⟨hz,its,r',IsTup.new _ _⟩)
    exact ⟨.ref h'.objs.size,_,I2,rfl,q _ (I1.hok.fresh (Nat.le_refl _))⟩
  · obtain ⟨its,r',pl,hz⟩:=I.tuple hq
    exact call_tuple_same pl ⟨.ref p,H,I,rfl,q⟩
def tyV (K:PySem.W.Frag) (T:String) (x:V) (H:Hp):Prop:=match x with
  | .str _=>T = "str"
  | .int _=>T = "int"
  | .ref p=>(T = "list" ∧ ∃ xs,tE K H p xs)∨(T = "tuple" ∧ ∃ o,K.lookup p=some o∧o.cls = .type "tuple" ∧ o.dict=none) ∨
      (T = "dict" ∧ ((∃ kvs,H p=some (.dK kvs))∨∃ kvs,H p=some (.dT kvs)))∨(T = "set" ∧ ∃ S n,H p=some (.set S n))
  | _=>False
theorem a7T {pins:List (Addr×Obj)} {σ:St} {H:Hp} {s:Shared} {T:String} {x:V} {v:Value} (I:Inv X pins σ H s) (r:RelV x v) (ty:tyV X.K T x H) :
    s.TypeIs v T∧∀ a,v = .ref a→∃ ob,s.heap.get? a=some ob∧ob.dict=none:=by
  cases x with
  | str z =>
    obtain ⟨t,rfl⟩:=r
    cases (show T = "str" from ty)
    exact ⟨typeIs_str s z t,fun _ e=>nomatch e⟩
  | int i =>
    obtain ⟨t,rfl⟩:=r
    cases (show T = "int" from ty)
    exact ⟨typeIs_int s i t,fun _ e=>nomatch e⟩
  | ref p =>
    cases r
    rcases ty with ⟨rfl,xs,hq⟩ | ⟨rfl,o,hk,hc,hd⟩ | ⟨rfl,hk⟩ | ⟨rfl,S,n,hk⟩
    · obtain ⟨its,_,pl,_⟩:=I.list hq
      refine ⟨pl.isList.typeIs,fun a e=>?_⟩
      cases e
      obtain ⟨o,n,e,c,hd,_⟩:=pl
      exact ⟨o,e,hd⟩
    · refine ⟨⟨o,I.yP p o hk,hc⟩,fun a e=>?_⟩
      cases e
      exact ⟨o,I.yP _ o hk,hd⟩
    · have z:∃ o,s.heap.get? p=some o∧o.ExactDict:=by
        rcases hk with ⟨kvs,hk⟩ | ⟨kvs,hk⟩
        · obtain ⟨_,_,_,_,o,_,_,e,ex,_⟩:=I.hok p _ hk
          exact ⟨o,e,ex⟩
        · obtain ⟨_,_,_,_,o,_,_,e,ex,_⟩:=I.hok p _ hk
          exact ⟨o,e,ex⟩
      obtain ⟨o,e,ex⟩:=z
      refine ⟨⟨o,e,ex.1⟩,fun a e2=>?_⟩
      cases e2
      exact ⟨o,e,ex.2.1⟩
    · obtain ⟨o,_,_,_,e,ex,_⟩:=I.hok p _ hk
      refine ⟨⟨o,e,ex.1⟩,fun a e2=>?_⟩
      cases e2
      exact ⟨o,e,ex.2.1⟩
  | _=>exact False.elim ty
variable {o e:Expr} {es:List Expr} {to:TE} {t:TA} {name:Str} {apos cpos:Pos} {T id:String} {r:V→List V→Hp→VK→Prop}
end
end L2
namespace L2
open PySem PySem.Spec PyProof.Rows
def MtM (X:Cx) (id:String) (r:V→List V→Hp→VK→Prop):Prop :=
  ∀ (pins:List (Addr×Obj)) (s:Shared) (σ:St) (H:Hp) (x:V) (xs:List V) (v:Value) (us:List Value) (Q:VK),Inv X pins σ H s→RelV x v→Vals xs us→r x xs H Q →
    wpAny (model X.prog X.w) X.A (call (.builtin id) (v :: us)) (EP X pins σ Q) X.xe s
theorem Vals.one:∀ {x:V} {us:List Value},Vals [x] us→∃ u,us=[u]∧RelV x u
  | _,_,.cons r .nil=>⟨_,rfl,r⟩
theorem Vals.eraseIdx:∀ {xs:List V} {us:List Value} (i:Nat),Vals xs us→Vals (xs.eraseIdx i) (us.eraseIdx i)
  | _,_,_,.nil => .nil
  | _,_,0,.cons _ t=>t
  | _,_,i+1,.cons r t => .cons r (Vals.eraseIdx i t)
section
variable {X:Cx} {pins:List (Addr×Obj)} {σ:St} {H:Hp} {s:Shared} {l b:Addr} {xs ys zs:List V}
theorem Inv.asY {its its':List Value} {n:Nat} {f:Array Value→Array Value} {t':Nat} (I:Inv X pins σ H s) (hH:H l=some (.lst xs))
    (e:s.heap.get? l=some { cls := .type "list",data := .seq its.toArray n }) (hf:f its.toArray=its'.toArray) (hv:Vals ys its') (hz:ys.length≤sizeLine) :
    Inv X pins σ (upd H l (.lst ys)) { s with heap:=s.heap.update l (Obj.mapSeq f),toks:=t' }:=by
  have q:=PySem.IsL.update e f
  rw [hf] at q
  refine I.write (x:=l) (e:=l) (by rw [hH];exact trivial) (.inl rfl) (fun b' u hb hu=>(Heap.get?_update_other s.heap (Obj.mapSeq f) (Ne.symm hb)).trans hu) ⟨_,q⟩ ?_
  exact ⟨hz,its',_,hv,q⟩
theorem Inv.asZ {its:List Value} {t':Nat} (I:Inv X pins σ H s) (hv:Vals ys its) (hz:ys.length≤sizeLine) :
    Inv X pins σ (upd H s.heap.objs.size (.lst ys)) { s with heap:=s.heap.push { cls := .type "list",data := .seq its.toArray },toks:=t' } :=
  I.laid (fun _ _ q=>Heap.get?_push_of_some _ q) (Nat.le_refl _) ⟨hz,its,0,hv,Heap.get?_push_size _ rfl⟩
theorem Inv.fresh (I:Inv X pins σ H s):H s.heap.objs.size=none:=I.hok.fresh (Nat.le_refl _)
theorem Inv.adD (I:Inv X pins σ H s) (hH:H l=some (.lst xs)):xs.length≤sizeLine∧∃ (its:List Value) (n:Nat),Vals xs its∧xs.length=its.length∧s.heap.get? l=some { cls := .type "list",data := .seq its.toArray n }:=by
  obtain ⟨z,its,n,r,e⟩:=I.hok l _ hH
  exact ⟨z,its,n,r,r.length,e⟩
theorem adE {n:Nat} (h:n≤sizeLine):Builtin.List.listTooLong n=false:=by
  unfold Builtin.List.listTooLong
  exact decide_eq_false (by omega)
end
section
variable {X:Cx}
def ahW:V→List V→Hp→VK→Prop:=fun x vs H Q=>∃ l xs y,x = .ref l∧vs=[y]∧H l=some (.lst xs)∧xs.length < sizeLine∧Q .non (upd H l (.lst (xs++[y])))
theorem a2A:MtM X "list.append" ahW:=by
  intro pins s σ H x vs v us Q I rx rv h
  obtain ⟨l,xs,y,rfl,rfl,hH,hz,q⟩:=h
  cases rx
  obtain ⟨u,rfl,ru⟩:=rv.one
  obtain ⟨z,its,n,r,hl,e⟩:=I.adD hH
  refine call_meets F.slot_list_append ⟨_,e,rfl⟩ F.entry_list_append (F.args_list_append_2 _ _) (PySem.list_append l its.toArray n u (by rw [List.size_toArray];omega)) ⟨e,?_⟩
  refine ⟨.non,_,I.asY (its':=its++[u]) hH e (by simp) (r.append (.cons ru .nil)) ?_,rfl,q⟩
  rw [List.length_append,List.length_singleton]
  omega
def ahX:V→List V→Hp→VK→Prop:=fun x vs H Q=>∃ l b xs zs,x = .ref l∧vs=[.ref b]∧H l=some (.lst xs)∧H b=some (.lst zs)∧xs.length+zs.length≤sizeLine∧Q .non (upd H l (.lst (xs++zs)))
theorem arG:MtM X "list.extend" ahX:=by
  intro pins s σ H x vs v us Q I rx rv h
  obtain ⟨l,b,xs,zs,rfl,rfl,hH,hB,hz,q⟩:=h
  cases rx
  obtain ⟨u,rfl,ru⟩:=rv.one
  cases ru
  obtain ⟨z,its,n,r,hl,e⟩:=I.adD hH
  obtain ⟨z2,its2,n2,r2,hl2,e2⟩:=I.adD hB
  have hsz:its.toArray.size+its2.toArray.size≤sizeLine:=by rw [List.size_toArray,List.size_toArray];omega
  have at4:¬ (!its.toArray.isEmpty&&Builtin.List.listTooLong (its.toArray.size+its2.toArray.size))=true:=by
    rw [adE hsz,Bool.and_false]
    exact Bool.false_ne_true
  refine call_meets F.slot_list_extend ⟨_,e,rfl⟩ F.entry_list_extend (F.args_list_extend_2 _ _)
    (AutoSeq1.list_extend_list_list_0 l its.toArray n b its2.toArray n2 at4 (by rw [List.size_toArray];omega) (by omega)) ⟨e,e2,?_⟩
  refine ⟨.non,_,I.asY (its':=its++its2) hH e (by simp) (r.append r2) ?_,rfl,q⟩
  rw [List.length_append]
  omega
def ay1:R2:=fun x y H Q=>∃ l b xs zs,x = .ref l∧y = .ref b∧H l=some (.lst xs)∧H b=some (.lst zs)∧xs.length+zs.length≤sizeLine∧∀ p,H p=none→Q (.ref p) (upd H p (.lst (xs++zs)))
theorem anE:pG X (binaryOp .Add) ay1:=by
  intro pins s σ H x y v u Q I rx ry h
  obtain ⟨l,b,xs,zs,rfl,rfl,hH,hB,hz,q⟩:=h
  cases rx
  cases ry
  obtain ⟨z,its,n,r,hl,e⟩:=I.adD hH
  obtain ⟨z2,its2,n2,r2,hl2,e2⟩:=I.adD hB
  refine PySem.P.add_list e e2 ?_ (by rw [List.size_toArray,List.size_toArray];omega)
  have ea:its.toArray++its2.toArray=(its++its2).toArray:=by simp
  rw [ea]
  exact ⟨.ref _,_,I.asZ (t':=s.toks) (r.append r2) (by rw [List.length_append];omega),rfl,q _ I.fresh⟩
end
section
variable {prog:Program} {w:World} {A:Around} {E:Value→Shared→Prop} {s:Shared}
end
section
variable {X:Cx}
end
end L2
namespace Att
open PySem PySem.W PySem.Calls PyProof.Rows
theorem xR {P:Params} {h:Heap}:∀ (ns:List Int) (vs:List Value),WellAll P h vs (ns.map WData.int)→IntsAre vs ns:=by
  intro ns
  induction ns with
  | nil =>
    intro vs w
    rw [List.map_nil] at w
    cases w
    exact .nil
  | cons n ns ih =>
    intro vs w
    rw [List.map_cons] at w
    cases w with
    | cons a b =>
      cases a
      exact .cons _ _ (ih _ b)
theorem abJ {l:OpenLaw} {n:Nat} (hn:l.most=some n) {P:Params} {h:Heap} {args:List WData} {vals:List Value}
    (hpre:l.row.toRowW.claim.pre args=true) (hwl:WellAll P h vals args) :
    ∃ a vs ns,vals=[Value.ref a]∧args=[WData.list (ns.map WData.int)]∧h.get? a=some { cls := .type "list",data := .seq vs.toArray }∧IntsAre vs ns∧ns.length≤n:=by
  have hsh:WShape.hasAll [] args [.list .int]=true:=(pre_splitW hpre).1
  have hc:l.pre.holds [] { args:=args }=true:=(pre_splitW hpre).2
  obtain ⟨d,r,rfl,h1,h2⟩:=hasAllW_cons hsh
  obtain rfl:=hasAllW_nil h2
  obtain ⟨xs,rfl,h3⟩:=hasW_list h1
  obtain ⟨ns,rfl⟩:=items_int h3
  have hlen:ns.length≤n:=by
    unfold OpenLaw.pre at hc
    have h4:(WTm.not (.lt (.lit (.int (n:Int))) (.len (.arg 0)))).holds [] { args:=[.list (ns.map .int)] }=true:=by
      have h4:=(holds_andW hc).1
      rw [hn] at h4
      exact h4
    have h5:=condW_of h4 (w_not (w_lt w_lit (w_len_list (w_arg rfl))))
    rw [List.length_map] at h5
    refine Nat.le_of_not_lt fun q=>?_
    have q':(n:Int) < ((ns.length:Nat):Int):=by omega
    first
      | (rw [decide_eq_true q'] at h5;exact absurd h5 (by decide))
      | (simp at h5;omega)
  cases hwl with
  | cons w1 w2 =>
    cases w2
    cases w1 with
    | list ho hall=>exact ⟨_,_,ns,rfl,rfl,ho,xR ns _ hall,hlen⟩
theorem abK (l:OpenLaw) (args:List WData):l.row.toRowW.claim.post args (.bool true) args=true :=
  postW_of (r:=l.row.toRowW) (X:=(true == true))
    (show WShape.has [] (.bool true) .bool=true by first | rfl | decide | simp [WShape.has,WShape.arms,WShape.armsAll])
    (show (WTm.eq .res (.lit (.bool true))).value [] { args:=args,res:=some (.bool true),after:=args }=some (.bool (true == true)) from w_eq_bool (w_res rfl) w_lit) rfl
theorem a5T {l:OpenLaw} {n:Nat} {q:Program} {loose:List Str} {XP:(Str→Option Value)→Heap→Prop} {YP:World→Heap→Prop} {d:DefRec}
    (hn:l.most=some n) (hdf:d.params.defaults=[])
    (call:∀ (w:World) (s₀ s₁:Shared) (mg mb:Str→Option Value) (fa:Addr) (o:Obj) (pm cd doc:Value) (a:Addr) (vs:List Value) (ns:List Int),
      Ground q loose [] XP w s₀ mg mb s₁.heap→YP w s₁.heap →
      s₁.heap.get? fa=some o→o.data = .func (docDef d.name d.params d.body d.scope pm cd doc)→s₁.heap.CodeRec cd d.name→mg d.name=some (.ref fa) →
      s₁.heap.get? a=some { cls := .type "list",data := .seq vs.toArray }→IntsAre vs ns→ns.length≤n→s₁.gens=#[] →
      codeAny (model l.prog w) callerA (.call (.ref fa) ⟨[.ref a],[]⟩) (fun r s'=>r = .ok (.ret (.bool true))∧OldK s₁.heap s'.heap∧s'.os=s₁.os∧AllBare s'.gens) s₁) :
    WalkO q loose XP YP l.row.toRowW d [] (fun f vs=>PySem.call f vs):=by
  intro w s₀ s₁ mg mb G Y fa o pm cd doc dV kV ho hd hcd hD hmg hg args vals as hpre hlay hrd hwl hlo
  obtain rfl:dV = .none:=Dflts.none hD hdf
  obtain rfl:kV = .none:=Dflts.noKw hD
  obtain ⟨a,vs,ns,rfl,rfl,hobj,hints,hlen⟩:=abJ hn hpre hwl
  refine enter_call (codeAny_mono (call w s₀ s₁ mg mb fa o pm cd doc a vs ns G Y ho (fd_plain hd) hcd hmg hobj hints hlen hg) fun r s' hq=>?_)
  obtain ⟨rfl,h2,h3,h4⟩:=hq
  exact ⟨.inl ⟨.bool true,.bool true,[],rfl,fun _=>rfl,.bool true,abK l _,fun _=>⟨List.Pairwise.nil,fun _ hm=>(nomatch hm)⟩⟩,h2,h3,h4⟩
section
variable {prog:Program} {w:World} {A:Around} {E:Value→Shared→Prop} {s:Shared} {K:Frag}
def ledger (h:Heap) (L d:Addr):List (Addr×Obj):=(List.range h.objs.size).filterMap fun a=>if a=L∨a=d then none else (h.get? a).map fun o=>(a,o)
end
end Att
namespace L2
open PySem PySem.Spec PyProof.Rows
theorem wF:∀ {vs:List Value} {ns:List Int},IntsAre vs ns→Vals (ns.map V.int) vs
  | _,_,.nil => .nil
  | _,_,.cons n t h => .cons ⟨t,rfl⟩ (wF h)
end L2
namespace L2
open PySem PySem.Spec PyProof.Rows
end L2
namespace L2
open PySem PySem.Spec PyProof.Rows
def gM (s:Stmt):Arguments:=match s with
  | .FunctionDef _ a _ _ _ _ _ _ _ _=>a
  | _=>{ posonlyargs:=[],args:=[],vararg:=none,kwonlyargs:=[],kw_defaults:=[],kwarg:=none,defaults:=[] }
def bI (s:Stmt):List Stmt:=match s with
  | .FunctionDef _ _ b _ _ _ _ _ _ _=>b
  | _=>[]
def aC (s:Stmt):Scope:=match s with
  | .FunctionDef _ _ _ _ _ _ sc _ _ _=>sc
  | _=>{ kind := .function,names:=[],isGenerator:=false,isCoroutine:=false }
abbrev CX0:xX:=fun _ _ _ _ _ _=>False
structure uU (K:PySem.W.Frag) (x qual:Str) (st:Stmt) (f:Addr) (fd:FuncData):Prop where
  ex:∃ (oc:Value) (od:Option Addr) (dV kV doc pm:Value) (an:Option Addr) (cdv ct:Value) (osl:Array (Option Value)),
    fd=PySem.W.fnOf x qual (gM st) (bI st) (aC st) dV kV doc pm an cdv ct∧K.lookup f=some ⟨oc,od,.func fd,osl⟩∧PySem.W.codeIn K cdv qual=true
  kp:PySem.W.keepIn K (.ref f)=true
section
variable {P:Program} {w:World} {K:PySem.W.Frag} {mg:Str→Option Value} {base:Heap}
theorem uU.ok {x qual:Str} {st:Stmt} {f:Addr} {fd:FuncData} {N ps:List Str} {k:Nat} {sp:Sp} (F:uU K x qual st f fd) (S:bD N ps (aC st)) (len:∀ vs H Q E,sp vs H Q E→vs.length=ps.length)
    (hbody:∀ (cdv:Value) (A:Around) (outer:List Env) (s:Shared) (H:Hp) (vs:List V) (Q:VK) (E:XK),bQ qt k (A.deeper (envOfC qual (aC st) s.heap.objs.size f cdv))→sp vs H Q E →
      ∃ t,xQ (eE qt CX0 P w K mg base N qual (aC st) f cdv A outer s H E).nox (bI st) t∧t { nx:=fun _ H'=>Q .non H',rt:=Q } (start N vs) H):bY qt P w K mg base CX0 (k+1) f fd ps sp:=by
  obtain ⟨oc,od,dV,kV,doc,pm,an,cdv,ct,osl,rfl,lk,hcd⟩:=F.ex
  refine ad3 lk hcd S len fun A outer s H vs Q E hr hsp=>?_
  obtain ⟨t,h,q⟩:=hbody cdv A outer s H vs Q E hr hsp
  exact ⟨t,h.nox,q⟩
theorem adF {x qual:Str} {st:Stmt} {f:Addr} {oc:Value} {od an:Option Addr} {osl:Array (Option Value)} {dV kV doc pm cdv ct:Value} (l:K.lookup f=some ⟨oc,od,.func (PySem.W.fnOf x qual (gM st) (bI st) (aC st) dV kV doc pm an cdv ct),osl⟩)
    (c:PySem.W.codeIn K cdv qual=true) (k:PySem.W.keepIn K (.ref f)=true):uU K x qual st f (PySem.W.fnOf x qual (gM st) (bI st) (aC st) dV kV doc pm an cdv ct):=⟨⟨oc,od,dV,kV,doc,pm,an,cdv,ct,osl,rfl,l,c⟩,k⟩
end
section
variable {X:Cx}
theorem pv (i:Nat) {x:Str} {pos:Pos} (hN:X.N[i]?=some x:=by rfl) (hv:Vis X.env.scope x:=by first | exact Or.inl rfl | exact Or.inr (Or.inl rfl) | exact Or.inr (Or.inr rfl)) (hd:(x == ("__debug__" : Str))=false:=by decide)
    (hcd:(x == ("__classdict__" : Str))=false:=by decide):PE X (.Name x pos) (amA i):=a7L hN hv hd hcd
end
def Same (H H':Hp):Prop:=∀ b o,H b=some o→H' b=some o
theorem Same.refl (H:Hp):Same H H:=fun _ _ h=>h
theorem Same.trans {H H1 H2:Hp} (a:Same H H1) (b:Same H1 H2):Same H H2:=fun c o h=>b c o (a c o h)
theorem Same.free {H H':Hp} (e:Same H H') {l:Addr} (h:H' l=Option.none):H l=Option.none:=by
  cases q:H l with
  | none=>rfl
  | some o =>
    rw [e l o q] at h
    cases h
theorem Same.seq {K:PySem.W.Frag} {H H':Hp} {a:Addr} {xs:List V} (e:Same H H') (h:tE K H a xs):tE K H' a xs:=by
  rcases h with (h | ⟨o,h⟩) | h
  · exact .inl (.inl (e _ _ h))
  · exact .inl (.inr ⟨o,e _ _ h⟩)
  · exact .inr h
section
variable {X:Cx}
end
section
variable {κ:Type} [DecidableEq κ]
end
end L2
namespace L2
open PySem PySem.Spec PyProof.Rows
section
open AutoSeq1 (wpAny_loadPart')
end
section
variable {prog:Program} {w:World} {A:Around} {E:Value→Shared→Prop} {s:Shared}
end
section
variable {prog:Program} {w:World} {A:Around} {R:Result→Shared→Prop} {I:Addr} {fp wr:List Addr} {P:Nat→Value→Prop} {St:Nat→Heap→Prop}
end
section
open PySem.SeqAt
open PySem.AutoSeq1 (wpAny_loadPart')
open PySem.MeetsSeq PySem.MeetsSeq2 PySem.MeetsSeq3
end
end L2
namespace L2
open PySem PySem.Spec PyProof.Rows PySem.W
section
variable {P:Program} {w:World} {fs ex:List Addr} {H:Hp} {h h':Heap} {T:Addr} {ps more:Array Value}
theorem mW.grow (x:mW P w H h) (e:H T=some (.qF ps)) (k:∀ b u,b≠T→h.get? b=some u→h'.get? b=some u) (hT:h'.get? T=some (tabObj (ps++more))):mW P w (upd H T (.qF (ps++more))) h':=fun a o q=>by
  by_cases z:a=T
  · subst z;rw [aD] at q;cases q;exact hT
  · rw [aG z] at q
    refine (x a o q).stay (fun b u hb hu=>k b u ?_ hu) (fun b hb=>?_) fun b xs hb=>?_
    · rcases hb with rfl | hb
      · exact z
      · intro y;subst y;rw [e] at hb;cases hb
    · rw [aG (fun y=>by subst y;rw [e] at hb;cases hb)];exact hb
    · rw [aG (fun y=>by subst y;rw [e] at hb;cases hb)];exact hb
end
def iC (H:Hp) (c':Addr) (qual:Str):Prop:=∃ (oc:Obj) (vs:Array Value) (t:Tok),H c'=some (.mV oc (.ext fun _=>True))∧oc.data = .fields vs∧vs[1]?=some (.str qual t)
def mZ (H:Hp) (qual:Str) (pos:Pos) (ps:Array Value):Prop:=ps=#[]∨∃ c',ps=#[rawInt pos.line,rawInt pos.col,.ref c']∧iC H c' qual
abbrev qD (o:Obj):HO := .mV o (.ext fun _=>True)
theorem n6 {P:Program} {w:World} {H:Hp} {h:Heap} {a:Addr} {o:Obj} (e:h.get? a=some o):cG P w H h a (qD o):=⟨e,trivial,⟨o,e⟩,fun _ _ _ _=>trivial⟩
theorem iC.keep {H H':Hp} {c':Addr} {qual:Str} (r:iC H c' qual) (k:∀ a o φ,H a=some (.mV o (.ext φ))→H' a=some (.mV o (.ext φ))):iC H' c' qual:=by
  obtain ⟨oc,vs,t,e,r⟩:=r
  exact ⟨oc,vs,t,k _ _ _ e,r⟩
theorem mZ.keep {H H':Hp} {qual:Str} {pos:Pos} {ps:Array Value} (r:mZ H qual pos ps) (k:∀ a o φ,H a=some (.mV o (.ext φ))→H' a=some (.mV o (.ext φ))):mZ H' qual pos ps:=by
  rcases r with r | ⟨c',e,r⟩
  · exact .inl r
  · exact .inr ⟨c',e,r.keep k⟩
section
variable {X:Cx} {pins:List (Addr×Obj)} {σ:List (Option V)} {H:Hp} {s:Shared}
theorem Inv.grow {T c':Addr} {ps more:Array Value} {oc:Obj} {h':Heap} {t':Nat} (I:Inv X pins σ H s) (e:H T=some (.qF ps)) (k:∀ b u,b≠T→s.heap.get? b=some u→h'.get? b=some u) (hT:h'.get? T=some (tabObj (ps++more))) (hc:s.heap.objs.size≤c') (ho:h'.get? c'=some oc) :
    Inv X pins σ (upd (upd H T (.qF (ps++more))) c' (qD oc)) { s with heap:=h',toks:=t' }:=by
  have fr:H c'=none:=I.hok.fresh hc
  have tc:T≠c':=aN e fr
  have nT:∀ b,H b=none→b≠T:=fun b n z=>by subst z;rw [e] at n;cases n
  have old:∀ b o,s.heap.get? b=some o→b≠c':=fun b o q=>Nat.ne_of_lt (Nat.lt_of_lt_of_le (Heap.lt_size q) hc)
  have hk2:mW X.prog X.w (upd H T (.qF (ps++more))) h':=I.hok.grow e k hT
  refine I.step (ch:=[]) (fun b z=>nomatch z) (fun b o _ _ _ q n=>k b o (nT b n) q) (fun b o _ _ _ q n=>⟨o.slots,k b o (nT b n) q⟩) (fun b o _ q n=>?_) (fun b o _ q=>?_) (fun b xs q=>?_) (fun b o u q=>?_) (fun b qs q=>?_) (fun m hn=>?_) (fun a o q=>?_) I.bare
  · rw [aG (old b o q),aG (nT b n)];exact n
  · by_cases z:b=T
    · subst z;exact ⟨_,hT⟩
    · exact ⟨o,k b o z q⟩
  · rw [aG (aN q fr),aG (jN q e (fun z=>by cases z))];exact q
  · rw [aG (aN q fr),aG (jN q e (fun z=>by cases z))];exact q
  · by_cases z:b=T
    · subst z
      rw [e] at q;cases q
      exact ⟨more,by rw [aG tc,aD]⟩
    · exact ⟨#[],by rw [aG (aN q fr),aG z,q];simp⟩
  · obtain ⟨o,es,ep,q,r⟩:=hn
    exact ⟨o,es,ep,k _ _ (nT _ I.free) q,r⟩
  · by_cases z:a=c'
    · subst z;rw [aD] at q;cases q;exact n6 ho
    · rw [aG z] at q
      refine (hk2 a o q).stay (fun _ _ _ h=>h) (fun b hb=>?_) fun b xs hb=>?_
      · rw [aG (fun y=>by subst y;rw [aG (Ne.symm tc),fr] at hb;cases hb)];exact hb
      · rw [aG (fun y=>by subst y;rw [aG (Ne.symm tc),fr] at hb;cases hb)];exact hb
theorem ahY {A:Around} {E:Value→Shared→Prop} {Q:Value→Shared→Prop} {name qual:Str} {params:Arguments} {body:List Stmt} {scope:Scope} {pos:Pos} {firstLine:Nat} {clos:List (Str×Addr)} {c T:Addr} {ps:Array Value} (I:Inv X pins σ H s) (hT:H T=some (.qF ps)) (st:mZ H qual pos ps) (C:CodeHd X.base c T) (hb:X.base.BuiltinsAt X.mg T) (hcode:X.env.code = .ref c) (hcl:closureFor scope X.env=pure clos)
    (h:∀ f c' doc ctv ps' H' s',Inv X pins σ H' s'→H f=none→H' f=some (qD (fnMade name qual params body scope clos doc ((X.mg "__name__").getD .none) c' ctv))→iC H' c' qual→H' T=some (.qF ps')→mZ H' qual pos ps'→(∀ b u,b≠T→H b=some u→H' b=some u)→Q (.ref f) s') :
    wpAny (model X.prog X.w) A (makeFunction name qual params (.stmts body) scope X.env [] [] [] pos firstLine) Q E s:=by
  have hP:s.heap.get? T=some (tabObj ps):=I.hok T _ hT
  have hg:s.heap.Ns mainGlobals X.mg:=I.mod.glob.keeps I.bk
  have hC:CodeHd s.heap c T:=C.keeps I.bk
  have hgT:mainGlobals≠T:=fun z=>by
    obtain ⟨o,es,ep,q,d,_⟩:=hg
    rw [z,hP] at q;cases q;cases d
  have hbs:s.heap.BuiltinsAt X.mg T:=by
    obtain ⟨bm,o,b1,b2,b3,b4,b5,b6⟩:=hb
    exact ⟨bm,o,b1,b2,b3,b4,I.bk _ _ b5,b6⟩
  rcases id st with st0 | ⟨c',e,rec⟩
  · subst st0
    refine makeFunction_K (mg:=X.mg) hcl I.ok.glob hg hcode hC hP trivial rfl hgT hbs fun c' ctv doc h' tk hx hge hlt hrec htb=>?_
    obtain ⟨c₂,oc,vs,t,e2,hoc,hd,hv⟩:=hrec
    cases e2
    have I1:=I.grow (t':=s.toks) (c':=c') hT (fun b u n q=>hx b u n q) htb hge hoc
    have fr:H c'=none:=I.hok.fresh hge
    have tc:T≠c':=aN hT fr
    have ff:H h'.objs.size=none:=I.hok.fresh (Nat.le_trans hge (Nat.le_of_lt hlt))
    have I2:=I1.laid (t':=tk) (o:=qD (fnMade name qual params body scope clos doc ((X.mg "__name__").getD .none) c' ctv)) (fun b u q=>Heap.get?_push_of_some _ q) (Nat.le_refl _) (n6 (Heap.get?_push_size _ rfl))
    have n1:c'≠h'.objs.size:=Nat.ne_of_lt hlt
    have n2:T≠h'.objs.size:=aN hT ff
    have rc:iC (upd (upd (upd H T (.qF (#[]++#[rawInt pos.line,rawInt pos.col,.ref c']))) c' (qD oc)) h'.objs.size (qD (fnMade name qual params body scope clos doc ((X.mg "__name__").getD .none) c' ctv))) c' qual:=⟨oc,vs,t,by rw [aG n1,aD],hd,hv⟩
    refine h h'.objs.size c' doc ctv _ _ _ I2 ff aD rc (by rw [aG n2,aG tc,aD]) (.inr ⟨c',by simp,rc⟩) fun b u hb q=>?_
    rw [aG (aN q ff),aG (aN q fr),aG hb];exact q
  · subst e
    have hf:codeAmong pos (#[rawInt pos.line,rawInt pos.col,Value.ref c']:Array Value).toList=some (.ref c'):=by simp [codeAmong,rawInt]
    refine makeFunction_hit (mg:=X.mg) hcl I.ok.glob hg hcode hC hP trivial hf hbs fun ctv doc h' tk hk hsz=>?_
    have ff:H h'.objs.size=none:=I.hok.fresh hsz
    have I1:=I.kept (t':=s.toks) hk
    have I2:=I1.laid (t':=tk) (o:=qD (fnMade name qual params body scope clos doc ((X.mg "__name__").getD .none) c' ctv)) (fun b u q=>Heap.get?_push_of_some _ q) (Nat.le_refl _) (n6 (Heap.get?_push_size _ rfl))
    have kf:∀ b u,H b=some u→upd H h'.objs.size (qD (fnMade name qual params body scope clos doc ((X.mg "__name__").getD .none) c' ctv)) b=some u:=fun b u q=>by rw [aG (aN q ff)];exact q
    exact h h'.objs.size c' doc ctv _ _ _ I2 ff aD (rec.keep fun a o u q=>kf a _ q) (kf _ _ hT) (.inr ⟨c',rfl,rec.keep fun a o u q=>kf a _ q⟩) fun b u _ q=>kf b u q
end
end L2
namespace L2
open PySem PySem.Spec PyProof.Rows PySem.W
theorem wG {env:Env}:∀ (a b:List Stmt),execs (a++b) env=(execs a env >>= fun f=>match f with | .next=>execs b env | f=>pure f)
  | [],b=>by simp [execs]
  | s :: r,b=>by
    rw [List.cons_append,execs,execs,bind_assoc]
    congr 1
    funext f
    cases f with
    | next=>exact wG r b
    | _=>simp
section
variable {P:Program} {w:World} {fs ex:List Addr} {H H':Hp} {h h':Heap} {a:Addr} {o:Obj}
theorem mW.adopt (x:mW P w H h) (n:H a=none) (e:h.get? a=some o):mW P w (upd H a (qD o)) h:=fun b u q=>by
  by_cases z:b=a
  · subst z;rw [aD] at q;cases q;exact n6 e
  · rw [aG z] at q
    exact (x b u q).stay (fun _ _ _ h=>h) (fun c hc=>by rw [aG (aN hc n)];exact hc) fun c xs hc=>by rw [aG (aN hc n)];exact hc
theorem Un.adopt {u:HO} (x:Un fs ex H H' h h') (n:H' a=none) (new:h.objs.size≤a):Un fs ex H (upd H' a u) h h' where
  keep:=x.keep
  slot:=x.slot
  free:=fun b o q m hx=>by rw [aG (Nat.ne_of_lt (Nat.lt_of_lt_of_le (Heap.lt_size q) new))];exact x.free b o q m hx
  there:=x.there
  tups:=fun b xs q=>by rw [aG (aN (x.tups b xs q) n)];exact x.tups b xs q
  cQ:=fun b o v q=>by rw [aG (aN (x.cQ b o v q) n)];exact x.cQ b o v q
  m7:=fun b ps q=>by
    obtain ⟨more,e⟩:=x.m7 b ps q
    exact ⟨more,by rw [aG (aN e n)];exact e⟩
end
section
variable {X:Cx} {name qual:Str} {params:Arguments} {body:List Stmt} {scope:Scope} {pos:Pos} {clos:List (Str×Addr)} {c T:Addr} {i:Nat}
def at5 (K:PySem.W.Frag) (pm:Value) (T:Addr) (name qual:Str) (params:Arguments) (body:List Stmt) (scope:Scope) (pos:Pos) (clos:List (Str×Addr)) (i:Nat):TS:=fun D σ H=>∃ ps,H T=some (.qF ps)∧mZ H qual pos ps ∧
  ∀ f c' doc ctv ps' H',K.lookup f=none→H f=none→H' f=some (qD (fnMade name qual params body scope clos doc pm c' ctv))→iC H' c' qual→H' T=some (.qF ps')→mZ H' qual pos ps'→(∀ b u,b≠T→H b=some u→H' b=some u)→D.nx (σ.set i (some (.ref f))) H'
theorem ahZ (hd0:params.defaults=[]) (hk0:params.kw_defaults=[]) (ha:annTrees params none X.env=[]) (hq:qualnameIn X.env name name=qual) (C:CodeHd X.base c T) (hb:X.base.BuiltinsAt X.mg T) (hcode:X.env.code = .ref c) (hcl:closureFor scope X.env=pure clos) (hN:X.N.Nodup) (hi:X.N[i]?=some name) (hx:Loc X.env.scope name) (hf:X.fn name=true∨X.env.scope.names.lookup name=some .local) :
    PS X (.FunctionDef name params body [] none [] scope none name pos) (at5 X.K ((X.mg "__name__").getD .none) T name qual params body scope pos clos i):=by
  intro pins s σ H D I h _tk
  obtain ⟨ps,hT,st,h⟩:=h
  refine nestDef_K hd0 hk0 ha ?_
  rw [hq]
  refine ahY I hT st C hb hcode hcl fun f c' doc ctv ps' H' s' I' ff hf' rc hT' st' kp=>?_
  have kf:X.K.lookup f=none:=by
    cases q:X.K.lookup f with
    | none=>rfl
    | some o =>
      have:=(I'.bs f o (I'.ok.mod.kin f o q)).2
      rw [hf'] at this;cases this
  exact yQ (v := .ref f) I' hN hi hx rfl (fun s'' I''=>⟨_,H',I'',h f c' doc ctv ps' H' kf ff hf' rc hT' st' kp⟩) hf
end
theorem adG {qt:Bool} {CX:xX} {P:Program} {w:World} {K:PySem.W.Frag} {mg:Str→Option Value} {base:Heap} {k:Nat} {f:Addr} {name qual g x:Str} {params:Arguments} {pre:List Stmt} {pg pr:Pos} {scope:Scope} {dV kV doc pm cdv ct oc:Value} {an od:Option Addr}
    {osl:Array (Option Value)} {N ps:List Str} {sp:Sp} {ig ix:Nat} (lk:K.lookup f=some ⟨oc,od,.func (PySem.W.fnOf name qual params (pre++[.Return (some (.Name g pg)) pr]) scope dV kV doc pm an cdv ct),osl⟩) (hcd:PySem.W.codeIn K cdv qual=true) (S:bD N ps scope)
    (len:∀ vs H Q E,sp vs H Q E→vs.length=ps.length) (hg:N[ig]?=some g) (hgv:Vis scope g) (hx:N[ix]?=some x) (hxc:scope.names.lookup x=some .cell) (hdb:(g == ("__debug__" : Str))=false) (hcl:(g == ("__classdict__" : Str))=false)
    (hbody:∀ (A:Around) (outer:List Env) (s:Shared) (H:Hp) (vs:List V) (Q:VK) (E:XK),bQ qt k (A.deeper (envOfC qual scope s.heap.objs.size f cdv))→sp vs H Q E →
      ∃ t,xQ (eE qt CX P w K mg base N qual scope f cdv A outer s H E) pre t∧t { nx:=fun σ' H'=>∃ fA vv,σ'[ig]?=some (some (.ref fA))∧σ'[ix]?=some (some vv)∧∀ cc u ob,(cellsFrom (s.heap.objs.size+1) scope.names []).lookup x=some cc→RelV vv u→ob.data = .cell (some u)→H' cc=none→Q (.ref fA) (upd H' cc (qD ob)),rt:=fun _ _=>False } (start N vs) H) :
    bY qt P w K mg base CX (k+1) f (PySem.W.fnOf name qual params (pre++[.Return (some (.Name g pg)) pr]) scope dV kV doc pm an cdv ct) ps sp:=by
  refine ⟨len,fun A outer s H args us vs Q E hr e0 hb r hsp=>?_⟩
  have hl:=len _ _ _ _ hsp
  have KX:K.In s.heap:=e0.mod.kin.keeps fun b o e=>(e0.bs b o e).1
  have lim:s.heap.NoLimit:=e0.mod.nolimit.keeps fun b o e=>(e0.bs b o e).1
  have hkind:∀ y∈ps.zip us,scope.names.lookup y.1=some .local∨(scope.names.lookup y.1=some .cell∧((cellsFrom (s.heap.objs.size+1) scope.names []).lookup y.1).isSome=true):=fun ⟨n,v⟩ hy=>by
    rcases S.par n (List.of_mem_zip hy).1 with q | q
    · exact .inl q
    · exact .inr ⟨q,PySem.W.cellsFrom_some _ _ _ (.inl q)⟩
  refine codeAny_call_function hr.depth (KX _ _ lk) rfl S.co S.gen rfl (PySem.W.codeRec_of KX hcd) (hb _ _ _ _ ?_)
  refine wpAny_newFunctionEnv_cells S.kind hkind fun env he s1 y=>?_
  subst he
  refine ⟨lim.keeps y.toInCall.keep,codeAny_func ?_⟩
  obtain ⟨t,ht,hq⟩:=hbody A outer s H vs Q E (hr.deeper _) hsp
  have I:Inv (eE qt CX P w K mg base N qual scope f cdv A outer s H E) [] (start N vs) H s1:=wB S hr.hd e0 hl r y
  rw [wG]
  refine wpAny_bind (wpAny_mono (ht [] s1 (start N vs) H _ I hq) (fun fl s' hs=>?_) fun e s' hs=>hs)
  cases fl with
  | ret u=>obtain ⟨_,_,_,_,_,z⟩:=hs;exact z.elim
  | brk=>obtain ⟨_,_,_,z⟩:=hs;exact False.elim z
  | cont=>obtain ⟨_,_,_,z⟩:=hs;exact False.elim z
  | next =>
    obtain ⟨σ',H',J,fA,vv,e1,e2,q⟩:=hs
    have pn:=a7L (X:=eE qt CX P w K mg base N qual scope f cdv A outer s H E) (pos:=pg) hg hgv hdb hcl [] s' σ' H' (fun v H1=>v = .ref fA∧H1=H') J ⟨_,e1,rfl,rfl⟩
    refine wpAny_execs_cons (wpAny_Return_some (wpAny_mono pn (fun u s2 ⟨v,H2,J2,rv,ev,eH⟩=>?_) fun e s' hs=>hs))
    subst ev eH
    obtain rfl:u=Value.ref fA:=rv
    show CE outer P w H s Q (.ref fA) s2
    obtain ⟨m,hn,hloc⟩:=id J2.loc
    obtain ⟨ux,rx,lx⟩:=hloc ix x vv hx e2 (.inr (.inl hxc))
    rcases lx with ⟨kl,_⟩ | ⟨_,cc,ec,ob,eo,ed⟩
    · have kl:scope.names.lookup x=some .local:=kl
      rw [hxc] at kl;cases kl
    · have n:H2 cc=none:=J2.jO x cc ec
      have new:s.heap.objs.size≤cc:=J2.ok.cab x cc rfl ec
      exact ⟨.ref fA,upd H2 cc (qD ob),J2.os,J2.bare,J2.base.adopt n new,J2.hok.adopt n eo,rfl,q cc ux ob ec rx ed n⟩
end L2
namespace L2
open PySem PySem.Spec PyProof.Rows PySem.W
theorem gO:∀ (names:List (Str×NameKind)) (n:Nat) (acc:List (Str×Addr)),cellsFrom n names acc=cellsFrom n names []++acc
  | [],_,_=>rfl
  | (name,kind) :: r,n,acc=>by
    unfold cellsFrom
    split
    · rw [gO r (n+1) ((name,n) :: acc),gO r (n+1) [(name,n)],List.append_assoc]
      rfl
    · exact gO r n acc
def d9 (name:Str) (scope:Scope) (L a:Addr) (cd:Value) (cl:List (Str×Addr)):Env :=
  { scope:=scope,locals:=L,globals:=mainGlobals,cells:=cellsFrom (L+1) scope.names cl,qual:=name ++ ".<locals>.",func:=some a,code:=cd,frame:=some L,builtins:=builtinsNs }
structure InX (s:Shared) (L:Addr) (m:Str→Option Value) (names:List (Str×NameKind)) (s1:Shared):Prop where
  call:InCall s L m s1
  cell:∀ n c,(n,c)∈cellsFrom (L+1) names []→s1.heap.IsCell c none∧L < c
  apart:(cellsFrom (L+1) names []).Pairwise fun x y=>x.2≠y.2
section
variable {M:Model} {A:Around} {E:Value→Shared→Prop} {s₀ s:Shared} {env:Env}
theorem xE (f:Str×Value→PUnit→Sem (ForInStep PUnit)) (hf:∀ n v u,f (n,v) u=(do storeName env n v;pure (.yield ⟨⟩))) (hk:env.scope.kind = .function) :
    ∀ (binds:List (Str×Value)) (m:Str→Option Value) (s:Shared) (Q:PUnit→Shared→Prop),InX s₀ env.locals m env.scope.names s →
      (∀ x∈binds,env.kindOf x.1=some .local)→(∀ s',InX s₀ env.locals (bindL env.kindOf binds m) env.scope.names s'→Q ⟨⟩ s')→wpAny M A (forIn binds ⟨⟩ f) Q E s
  | [],m,s,Q,x,_,h=>by rw [List.forIn_nil];exact wpAny_pure (h s x)
  | (n,v) :: r,m,s,Q,x,hl,h=>by
    rw [List.forIn_cons,hf]
    have l:=hl (n,v) List.mem_cons_self
    refine wpAny_bind (wpAny_bind (wpAny_storeName_local l x.call.ns (fun h' hn' hs'=>wpAny_pure (xE f hf hk r _ _ Q ⟨⟨?_,hn',fun b o e=>?_,x.call.fresh⟩,fun k c hc=>?_,x.apart⟩ (fun y hy=>hl y (List.mem_cons_of_mem _ hy)) fun s'' x''=>h s'' ?_)) (by rw [hk];rfl)))
    · obtain ⟨h₁,tk,rfl⟩:=x.call.same
      exact ⟨h',_,rfl⟩
    · exact hs'.extBut b o (Nat.ne_of_lt (Nat.lt_of_lt_of_le (Heap.lt_size e) x.call.fresh)) (x.call.keep b o e)
    · exact ⟨(x.cell k c hc).1.sameBut hs' (Nat.ne_of_gt (x.cell k c hc).2),(x.cell k c hc).2⟩
    · unfold bindL;rw [if_pos l];exact x''
theorem a9H {scope:Scope} {cl:List (Str×Addr)} {binds:List (Str×Value)} {qual:Str} {f:Addr} {code:Value} {Q:Env→Shared→Prop} (hk:scope.kind = .function) (hloc:∀ x∈binds,scope.names.lookup x.1=some .local)
    (hQ:∀ s',InX s s.heap.objs.size (bindL (d9 qual scope s.heap.objs.size f code cl).kindOf binds fun _=>none) scope.names s'→Q (d9 qual scope s.heap.objs.size f code cl) s') :
    wpAny M A (newFunctionEnv scope mainGlobals cl binds (qual ++ ".<locals>.") (some f) code none builtinsNs) Q E s:=by
  simp only [newFunctionEnv,Option.isSome_none,Bool.false_eq_true,if_false]
  refine wpAny_bind (wpAny_alloc ?_)
  refine wpAny_bind (wpAny_layCells _ (fun name kind cells=>by cases hkc:kind == NameKind.cell <;> simp [hkc]) _ _ _ _ ?_)
  have ok:=cellsFrom_ok scope.names (s.heap.push { cls := .type "frame",data := .dict #[] }) (s.heap.objs.size+1) [] ⟨fun _ _ hm=>(nomatch hm),List.Pairwise.nil⟩ (by rw [Heap.size_push];exact Nat.le_refl _)
  rw [Heap.size_push] at ok
  rw [show ({ s with heap:=s.heap.push { cls := .type "frame",data := .dict #[] } }:Shared).heap.objs.size=s.heap.objs.size+1 from Heap.size_push ..]
  refine wpAny_bind (xE (s₀:=s) (env:=d9 qual scope s.heap.objs.size f code cl) _ (fun _ _ _=>rfl) hk binds (fun _=>none) _ _
    ⟨⟨⟨_,_,rfl⟩,(Heap.Ns.new s.heap (.type "frame")).keeps (pushCells_keeps _ _),fun b o e=>pushCells_keeps _ _ b o (Heap.get?_push_of_some _ e),Nat.le_refl _⟩,fun n c hm=>ok.empty n c hm,ok.apart⟩ hloc fun s' x=>wpAny_pure (hQ s' x))
end
structure ScX (N ps:List Str) (x:Str) (sc:Scope):Prop where
  kind:sc.kind = .function
  co:sc.isCoroutine=false
  gen:sc.isGenerator=false
  nd:N.Nodup
  pre:N.take (ps.length+1)=x :: ps
  par:∀ y∈ps,sc.names.lookup y=some .local
  free:∀ y,sc.names.lookup y=some .free→y=x
  own:sc.names.lookup x=some .free
def cxX (qt:Bool) (CX:xX) (P:Program) (w:World) (K:PySem.W.Frag) (mg:Str→Option Value) (base:Heap) (N:List Str) (qual:Str) (scope:Scope) (f:Addr) (cd:Value) (x:Str) (cc:Addr) (A:Around) (outer:List Env) (s:Shared) (H:Hp) (E:XK):Cx where
  prog:=P
  w:=w
  K:=K
  mg:=mg
  base:=base
  A:=A.deeper (d9 qual scope s.heap.objs.size f cd [(x,cc)])
  N:=N
  s₀:=s
  H₀:=H
  env:=d9 qual scope s.heap.objs.size f cd [(x,cc)]
  outer:=outer
  stack:=d9 qual scope s.heap.objs.size f cd [(x,cc)] :: outer
  ex:=[]
  calm:=!qt
  fn:=fun y=>!(y == x)
  pn:=[]
  tp:=[]
  xe:=fun e s'=>wpAny (model P w) (A.deeper (d9 qual scope s.heap.objs.size f cd [(x,cc)])) (leaving (d9 qual scope s.heap.objs.size f cd [(x,cc)]) e) (fun _ s''=>CX outer H s E e s'') (fun e' s''=>CX outer H s E e' s'') s'
instance ay3 {qt:Bool} {CX:xX} {P:Program} {w:World} {K:PySem.W.Frag} {mg:Str→Option Value} {base:Heap} {N:List Str} {qual:Str} {scope:Scope} {f:Addr} {cd:Value} {x:Str} {cc:Addr} {A:Around} {outer:List Env} {s s1:Shared} {H:Hp} {E:XK}:Tk (cxX qt CX P w K mg base N qual scope f cd x cc A outer s H E).need s1:=⟨fun z=>nomatch z⟩
theorem zB {α:Type} {n:Str}:∀ {l m:List (Str×α)} {c:α},(l++m).lookup n=some c→(n,c)∈l∨m.lookup n=some c
  | [],_,_,h => .inr h
  | (k,v) :: r,m,c,h=>by
    rw [List.cons_append,List.lookup_cons] at h
    cases hb:n == k with
    | true=>rw [hb] at h;cases h;rw [beq_iff_eq.mp hb];exact .inl (.head _)
    | false =>
      rw [hb] at h
      rcases zB h with z | z
      · exact .inl (.tail _ z)
      · exact .inr z
theorem qM:∀ {names:List (Str×NameKind)} {n:Nat} {acc:List (Str×Addr)} {y:Str} {c:Addr},(y,c)∈cellsFrom n names acc→(y,c)∈acc∨(y,NameKind.cell)∈names
  | [],_,_,_,_,h => .inl h
  | (name,kind) :: r,n,acc,y,c,h=>by
    unfold cellsFrom at h
    split at h
    · rename_i hk
      rcases qM h with z | z
      · rcases List.mem_cons.mp z with z | z
        · cases z
          exact .inr (by rw [beq_iff_eq.mp hk];exact .head _)
        · exact .inl z
      · exact .inr (.tail _ z)
    · rcases qM h with z | z
      · exact .inl z
      · exact .inr (.tail _ z)
theorem pJ {α:Type} {n:Str}:∀ {l m:List (Str×α)},(∀ c,(n,c) ∉ l)→(l++m).lookup n=m.lookup n
  | [],_,_=>rfl
  | (k,v) :: r,m,h=>by
    rw [List.cons_append,List.lookup_cons]
    cases hb:n == k with
    | true=>exact absurd (by rw [beq_iff_eq.mp hb];exact .head _) (h v)
    | false=>exact pJ fun c hc=>h c (.tail _ hc)
theorem qN {α:Type} {n:Str} {c:α}:∀ {l m:List (Str×α)},(l.lookup n=some c)→(l++m).lookup n=some c
  | (k,v) :: r,m,h=>by
    rw [List.cons_append,List.lookup_cons]
    rw [List.lookup_cons] at h
    cases hb:n == k with
    | true=>rw [hb] at h;exact h
    | false=>rw [hb] at h;exact qN h
theorem zE {qt:Bool} {CX:xX} {P:Program} {w:World} {K:PySem.W.Frag} {mg:Str→Option Value} {base:Heap} {N ps:List Str} {qual x:Str} {scope:Scope} {f cc:Addr} {cd:Value} {A:Around} {outer:List Env} {s s1:Shared} {H:Hp} {E:XK} {us:List Value} {vs:List V} {vv:V} {u:Value}
    (S:ScX N ps x scope) (n8:∀ y∈scope.names,y.1=x→y.2 ≠ .cell) (hd:qt=false→A.handled=none) (e0:qH P w K mg base A outer s H) (hl:vs.length=ps.length) (r:Vals vs us) (hc:s.heap.IsCell cc (some u)) (hH:H cc=none) (rv:RelV vv u)
    (y:InX s s.heap.objs.size (bindL (d9 qual scope s.heap.objs.size f cd [(x,cc)]).kindOf (ps.zip us) fun _=>none) scope.names s1) :
    Inv (cxX qt CX P w K mg base N qual scope f cd x cc A outer s H E) [] (start N (vv :: vs)) H s1:=by
  have hpl:ps.length+1≤N.length:=by have:=congrArg List.length S.pre;rw [List.length_take] at this;simp at this;omega
  obtain ⟨h1,tk,rfl,hk⟩:=y.call.done
  have ccl:cc < s.heap.objs.size:=hc.lt
  have noA:∀ b:Addr,b ∉ (cxX qt CX P w K mg base N qual scope f cd x cc A outer s H E).ex:=fun b z=>absurd (show b∈([]:List Addr) from z) (by simp)
  have cells:(cxX qt CX P w K mg base N qual scope f cd x cc A outer s H E).env.cells=cellsFrom (s.heap.objs.size+1) scope.names []++[(x,cc)]:=gO _ _ _
  have split:∀ n c,(cxX qt CX P w K mg base N qual scope f cd x cc A outer s H E).env.cells.lookup n=some c→(n,c)∈cellsFrom (s.heap.objs.size+1) scope.names []∨(n=x∧c=cc):=fun n c h=>by
    rw [cells] at h
    rcases zB h with z | z
    · exact .inl z
    · rw [List.lookup_cons] at z
      cases hb:n == x with
      | true=>rw [hb] at z;cases z;exact .inr ⟨beq_iff_eq.mp hb,rfl⟩
      | false=>rw [hb] at z;cases z
  have lx:(cxX qt CX P w K mg base N qual scope f cd x cc A outer s H E).env.cells.lookup x=some cc:=by
    rw [cells,pJ fun c hm=>?_]
    · simp
    · rcases qM hm with z | z
      · cases z
      · exact n8 _ z rfl rfl
  have lt:∀ n c,(n,c)∈cellsFrom (s.heap.objs.size+1) scope.names []→s.heap.objs.size < c:=fun n c h=>(y.cell n c h).2
  refine ⟨⟨e0.mod,S.kind,rfl,rfl,Nat.le_refl _,fun n z c h1 h2=>?_,fun n hy=>?_,fun n c fn h=>?_,fun z=>hd (by cases qt with | false=>rfl | true=>cases z),Around.frames_deeper e0.frames,.inr ⟨rfl,rfl⟩,fun b z=>absurd z (noA b),e0.bs,e0.bsz,fun b _ _=>noA b,fun b z=>absurd z (noA b),e0.mY,e0.frf⟩,
    rfl,e0.bare,Un.kept hk,⟨_,y.call.ns,fun i n v h1 h2 h3=>?_⟩,fun n c h=>?_,e0.hok.fresh (Nat.le_refl _),fun n c h=>?_,fun p hp=>absurd (show p∈([]:List (Addr×Obj)) from hp) (by simp),e0.hok.kept hk,?_,e0.hnd,fun p hp=>absurd (show p∈([]:List (Addr×List V)) from hp) (by simp)⟩
  · rcases split n c h1 with a | ⟨a,a'⟩ <;> rcases split z c h2 with b | ⟨b,b'⟩
    · exact name_of_addr y.apart a b
    · exact absurd (lt _ _ a) (by rw [b'];exact Nat.not_lt.mpr (Nat.le_of_lt ccl))
    · exact absurd (lt _ _ b) (by rw [a'];exact Nat.not_lt.mpr (Nat.le_of_lt ccl))
    · rw [a,b]
  · have hy:scope.names.lookup n=some .cell∨scope.names.lookup n=some .free:=hy
    rcases hy with hy | hy
    · obtain ⟨c,e⟩:=qI (n:=s.heap.objs.size+1) hy
      exact ⟨c,by rw [cells];exact qN e⟩
    · rw [S.free n hy];exact ⟨cc,lx⟩
  · rcases split n c h with a | ⟨rfl,rfl⟩
    · exact Nat.le_of_lt (lt _ _ a)
    · have fn:(!(n == n))=true:=fn
      simp at fn
  · unfold start at h2
    cases i with
    | zero =>
      have e1:x=n:=by
        have:=congrArg (fun l=>l[0]?) S.pre
        rw [List.getElem?_take_of_lt (by omega)] at this
        have h1:N[0]?=some n:=h1
        rw [h1] at this
        simp at this
        exact this.symm
      subst e1
      simp at h2
      subst h2
      obtain ⟨o,ho,hod⟩:=hc
      exact ⟨u,rv,.inr ⟨.inr S.own,cc,lx,o,hk _ _ ho,hod⟩⟩
    | succ i =>
      have hi:i < vs.length:=by
        by_cases hi:i < vs.length
        · exact hi
        · rw [List.getElem?_append_right (by simp;omega)] at h2
          rw [List.getElem?_replicate] at h2
          split at h2 <;> cases h2
      have ha:vs[i]?=some v:=by
        rw [List.getElem?_append_left (by simp;omega),List.getElem?_map,List.getElem?_cons_succ] at h2
        cases e:vs[i]? with
        | none=>rw [e] at h2;cases h2
        | some a=>rw [e] at h2;cases h2;rfl
      obtain ⟨uu,hu,rvv⟩:=r.get ha
      have hp:ps[i]?=some n:=by
        have:=congrArg (fun l=>l[i+1]?) S.pre
        rw [List.getElem?_take_of_lt (by omega)] at this
        have h1:N[i+1]?=some n:=h1
        rw [h1] at this
        simpa using this.symm
      have ndP:ps.Nodup:=by
        have:(x :: ps).Nodup:=by rw [← S.pre];exact S.nd.sublist (List.take_sublist _ _)
        exact (List.nodup_cons.mp this).2
      have k:=S.par n (List.mem_of_getElem? hp)
      exact ⟨uu,rvv,.inl ⟨k,wA ndP hp hu k⟩⟩
  · rcases split n c h with a | ⟨rfl,rfl⟩
    · exact ⟨_,(y.cell n c a).1⟩
    · obtain ⟨o,ho,hod⟩:=hc
      exact ⟨_,o,hk _ _ ho,hod⟩
  · rcases split n c h with a | ⟨rfl,rfl⟩
    · exact e0.hok.fresh (Nat.le_of_lt (lt _ _ a))
    · exact hH
  · unfold start
    show _=N.length
    rw [List.length_append,List.length_map,List.length_replicate]
    simp
    omega
def tG (H:Hp) (a:Addr):Hp:=fun b=>if b=a then none else H b
theorem uV {H:Hp} {a:Addr}:tG H a a=none:=if_pos rfl
theorem jQ {H:Hp} {a b:Addr} (h:b≠a):tG H a b=H b:=if_neg h
theorem qO {H:Hp} {a b:Addr} (h:H b=none):tG H a b=none:=by
  unfold tG
  split
  · rfl
  · exact h
theorem mW.tG {P:Program} {w:World} {H:Hp} {h:Heap} {a:Addr} {o:Obj} {u:HO} (x:mW P w H h) (e:H a=some (.mV o u)):mW P w (tG H a) h:=fun b v q=>by
  by_cases z:b=a
  · subst z;rw [uV] at q;cases q
  · rw [jQ z] at q
    exact (x b v q).stay (fun _ _ _ h=>h) (fun c hc=>by rw [jQ (jN hc e (fun z=>by cases z))];exact hc) fun c xs hc=>by rw [jQ (jN hc e (fun z=>by cases z))];exact hc
theorem ai1 {qt:Bool} {CX:xX} {P:Program} {w:World} {K:PySem.W.Frag} {mg:Str→Option Value} {base:Heap} {k:Nat} {name qual x:Str} {params:Arguments} {body:List Stmt} {scope:Scope} {N ps:List Str} (S:ScX N ps x scope) (n8:∀ y∈scope.names,y.1=x→y.2 ≠ .cell)
    {A:Around} {outer:List Env} {s:Shared} {H:Hp} {args:Args} {us:List Value} {vs:List V} {Q:VK} {E:XK} {f cc c':Addr} {doc pm ctv:Value} {ob:Obj} {u:Value} {vv:V}
    (hr:bQ qt (k+1) A) (e0:qH P w K mg base A outer s H) (hf:H f=some (qD (fnMade name qual params body scope [(x,cc)] doc pm c' ctv))) (rc:iC H c' qual) (hc:H cc=some (qD ob)) (hob:ob.data = .cell (some u)) (rv:RelV vv u) (hh:A.handled=none)
    (hb:BindsTo s (fnX name qual params body scope [(x,cc)] .none .none doc pm none (.ref c') ctv) args (ps.zip us)) (r:Vals vs us) (hl:vs.length=ps.length) (hCX:∀ e s',CX outer (tG H cc) s (fun _ _ _=>False) e s'→False)
    (hbody:bQ qt k (A.deeper (d9 qual scope s.heap.objs.size f (.ref c') [(x,cc)]))→∃ t,xQ (cxX qt CX P w K mg base N qual scope f (.ref c') x cc A outer s (tG H cc) (fun _ _ _=>False)) body t ∧
      t { nx:=fun _ H'=>H' cc=none→Q .non (upd H' cc (qD ob)),rt:=fun v H'=>H' cc=none→Q v (upd H' cc (qD ob)) } (start N (vv :: vs)) (tG H cc)) :
    codeAny (model P w) A (.call (.ref f) args) (CR CX outer P w H s Q E) s:=by
  have of':s.heap.get? f=some (fnMade name qual params body scope [(x,cc)] doc pm c' ctv):=(e0.hok f _ hf).1
  have oc':s.heap.get? cc=some ob:=(e0.hok cc _ hc).1
  have lim:s.heap.NoLimit:=e0.mod.nolimit.keeps fun b o e=>(e0.bs b o e).1
  have hrec:s.heap.CodeRec (.ref c') qual:=by
    obtain ⟨oo,vs',t,e,d,q⟩:=rc
    exact ⟨c',oo,vs',t,rfl,(e0.hok c' _ e).1,d,q⟩
  have ncc:cc ∉ frs outer:=fun z=>by have:=e0.frf cc z;rw [hc] at this;cases this
  have e1:qH P w K mg base A outer s (tG H cc):=⟨e0.frames,e0.mod,fun b o e=>⟨(e0.bs b o e).1,qO (e0.bs b o e).2⟩,e0.bsz,e0.mY,fun b z=>qO (e0.frf b z),e0.hok.tG hc,e0.bare,.inl hh⟩
  have hloc:∀ y∈ps.zip us,scope.names.lookup y.1=some .local:=fun ⟨n,v⟩ hy=>S.par n (List.of_mem_zip hy).1
  refine codeAny_call_function hr.depth of' rfl S.co S.gen rfl hrec (hb _ _ _ _ ?_)
  refine a9H S.kind hloc fun s1 y=>?_
  refine ⟨lim.keeps y.call.keep,codeAny_func ?_⟩
  obtain ⟨t,ht,hq⟩:=hbody (hr.deeper _)
  have I:Inv (cxX qt CX P w K mg base N qual scope f (.ref c') x cc A outer s (tG H cc) (fun _ _ _=>False)) [] (start N (vv :: vs)) (tG H cc) s1:=zE S n8 hr.hd e1 hl r ⟨ob,oc',hob⟩ uV rv y
  refine wpAny_mono (ht [] s1 (start N (vv :: vs)) (tG H cc) _ I hq) (fun fl s' hs=>?_) fun e s' hs=>wpAny_mono hs (fun _ s'' z=>(hCX _ _ z).elim) fun e' s'' z=>(hCX _ _ z).elim
  have fin:∀ {σ':St} {H':Hp} {v:V} {uu:Value},Inv (cxX qt CX P w K mg base N qual scope f (.ref c') x cc A outer s (tG H cc) (fun _ _ _=>False)) [] σ' H' s'→RelV v uu→(H' cc=none→Q v (upd H' cc (qD ob)))→CE outer P w H s Q uu s':=fun {σ' H' v uu} J rv q=>by
    have b:=J.base
    have n:H' cc=none:=b.free cc ob oc' uV (by intro z;cases z)
    have o2:s'.heap.get? cc=some ob:=b.keep cc ob oc' uV ncc (by intro z;cases z)
    have ne:∀ c,H c=none→c≠cc:=fun c m z=>by subst z;rw [hc] at m;cases m
    refine ⟨v,upd H' cc (qD ob),J.os,J.bare,⟨fun c o q m=>b.keep c o q (qO m),fun c o q m=>b.slot c o q (qO m),fun c o q m hx=>?_,b.there,fun c xs q0=>?_,fun c o w1 q0=>?_,fun c qs q0=>?_⟩,J.hok.adopt n o2,rv,q n⟩
    · rw [aG (ne c m)];exact b.free c o q (qO m) hx
    · have z:=jN q0 hc (fun z=>by cases z)
      rw [aG z];exact b.tups c xs (by rw [show (cxX qt CX P w K mg base N qual scope f (.ref c') x cc A outer s (tG H cc) (fun _ _ _=>False)).H₀=tG H cc from rfl,jQ z];exact q0)
    · by_cases z:c=cc
      · subst z;rw [hc] at q0;cases q0;exact aD
      · rw [aG z];exact b.cQ c o w1 (by rw [show (cxX qt CX P w K mg base N qual scope f (.ref c') x cc A outer s (tG H cc) (fun _ _ _=>False)).H₀=tG H cc from rfl,jQ z];exact q0)
    · have z:=jN q0 hc (fun z=>by cases z)
      obtain ⟨more,e⟩:=b.m7 c qs (by rw [show (cxX qt CX P w K mg base N qual scope f (.ref c') x cc A outer s (tG H cc) (fun _ _ _=>False)).H₀=tG H cc from rfl,jQ z];exact q0)
      exact ⟨more,by rw [aG z];exact e⟩
  cases fl with
  | ret u =>
    obtain ⟨v,σ',H',J,rv,q⟩:=hs
    exact fin J rv q
  | next =>
    obtain ⟨σ',H',J,q⟩:=hs
    exact fin (v:=V.non) (uu:=Value.none) J rfl q
  | brk =>
    obtain ⟨_,_,_,q⟩:=hs
    exact False.elim q
  | cont =>
    obtain ⟨_,_,_,q⟩:=hs
    exact False.elim q
end L2
namespace L2
open PySem PySem.Spec PyProof.Rows
abbrev NK:=List Int×Int
def zF (h:Heap) (k:NK) (a:Addr):Prop:=∃ o b t n,h.get? a=some o∧o.cls = .type "tuple" ∧ o.data = .seq #[.ref b,.int k.2 t] n∧∀ (P:Program) (w:World),IsTupleKey (aH P w) h (k.1.map Sum.inl) b
theorem a9I {x y:List Int} (h:x.map (Sum.inl:Int→Key)=y.map Sum.inl):x=y:=by
  induction x generalizing y with
  | nil=>cases y with
    | nil=>rfl
    | cons _ _=>cases h
  | cons a r ih=>cases y with
    | nil=>cases h
    | cons b q =>
      rw [List.map_cons,List.map_cons] at h
      injection h with h1 h2
      injection h1 with h1
      rw [h1,ih h2]
theorem adH {P:Program} {w:World} {h:Heap} {a:Addr} {x y:NK} (hx:zF h x a) (hy:zF h y a):x=y:=by
  obtain ⟨o,b,t,n,e1,e2,e3,e4⟩:=hx
  obtain ⟨o',b',t',n',g1,g2,g3,g4⟩:=hy
  rw [e1] at g1;cases g1
  rw [e3] at g3
  simp only [Data.seq.injEq,Array.mk.injEq,List.cons.injEq,Value.ref.injEq,Value.int.injEq,and_true] at g3
  obtain ⟨⟨rfl,h2,_⟩,_⟩:=g3
  have:=a9I ((e4 P w).inj (g4 P w))
  exact Prod.ext this h2
theorem adI {P:Program} {w:World} {h h':Heap} {k:NK} {a d:Addr} {o:Obj} {es ep} (x:zF h k a) (ho:h.get? d=some o) (hd:o.data = .dict es ep) (hs:Heap.SameBut d h h'):zF h' k a:=by
  obtain ⟨o',b,t,n,e1,e2,e3,e4⟩:=x
  have hne:a≠d:=by
    rintro rfl
    rw [e1] at ho;cases ho
    rw [hd] at e3;exact nomatch e3
  exact ⟨o',b,t,n,(hs.2 a hne).trans e1,e2,e3,fun P w=>(e4 P w).keeps ho hd hs⟩
section
variable {prog:Program} {w:World} {A:Around} {E:Value→Shared→Prop} {s:Shared}
def a7U (prog:Program) (w:World) (k:NK):Int:=reduceHash (Builtin.Tuple.tupleHashOf [tupleKeyHash (aH prog w) (k.1.map Sum.inl),(aH prog w).hash (.inl k.2)])
theorem a9J {k:NK} {a:Addr} (x:zF s.heap k a):s.TypeIs (.ref a) "tuple" := let ⟨o,_,_,_,ho,hc,_⟩:=x;⟨o,ho,hc⟩
theorem abL {k:NK} {a:Addr} {Q:Int→Shared→Prop} (hu:A.units+8 < cLine) (hk:zF s.heap k a) (h:Q (a7U prog w k) { s with toks:=s.toks+(k.1.length+1+1+1) }) :
    wpAny (model prog w) A (pyHash (.ref a)) Q E s:=by
  have hT:=a9J hk
  obtain ⟨o,b,t,n,ho,hc,hd,hi⟩:=hk
  unfold pyHash
  first | unfold pyHashByItsType | skip
  first | refine wpAny_bind (wpAny_cRoomFor_or (.inr (by omega)) ?_) | skip
  refine wpAny_bind (wpAny_specialOf hT PySem.F.slot_tuple_hash.lookup ?_)
  show wpAny _ _ (if (some (Value.builtin "tuple.__hash__") == some Value.none)=true then _ else _) Q E s
  rw [if_neg (by rw [beq_builtin_none];exact Bool.false_ne_true)]
  refine wpAny_bind (wpAny_specialOf hT PySem.F.slot_tuple_hash.lookup ?_)
  show wpAny _ _ (callSpecialIfBoundUnlessNone? (.ref a) "__hash__" _ >>= _) Q E s
  refine wpAny_bind (wpAny_callSpecialIfBoundUnlessNone?_slot hT PySem.F.slot_tuple_hash (wpAny_call_entry PySem.F.slot_tuple_hash hT PySem.F.entry_tuple_hash ?_ (PySem.F.args_tuple_hash_1 _)))
  show wpAny _ _ (Builtin.Tuple.tupleItemsOf (.ref a) >>= _) _ _ s
  refine wpAny_bind (wpAny_tupleItemsOf ho hd ?_)
  refine wpAny_bind ?_
  rw [← Array.forIn_toList]
  have hl:(k.1.map (Sum.inl:Int→Key)).length=k.1.length:=List.length_map ..
  refine wpAny_forIn_list _
    (fun rest (acc:Array Int) s'=>(rest=[Value.ref b,.int k.2 t]∧acc=#[]∧s'=s)∨(rest=[Value.int k.2 t]∧acc=#[tupleKeyHash (aH prog w) (k.1.map Sum.inl)]∧s'={ s with toks:=s.toks+(k.1.length+1) })∨(rest=[]∧acc=#[tupleKeyHash (aH prog w) (k.1.map Sum.inl),(aH prog w).hash (.inl k.2)]∧s'={ s with toks:=s.toks+(k.1.length+1+1) }))
    _ ?_ ?_ _ _ (.inl ⟨rfl,rfl,rfl⟩)
  · rintro x rest acc s' (⟨hr,rfl,rfl⟩ | ⟨hr,rfl,rfl⟩ | ⟨hr,_⟩)
    · injection hr with h1 h2
      subst h1 h2
      refine wpAny_bind (wpAny_pyHash_tuple (knd:=aH prog w) (by show A.units+1 < cLine;omega) (hi prog w) ?_)
      rw [hl]
      first
        | exact wpAny_pure (.inr (.inl ⟨rfl,rfl,rfl⟩))
        | exact wpAny_bind (wpAny_pure (wpAny_pure (.inr (.inl ⟨rfl,rfl,rfl⟩))))
    · injection hr with h1 h2
      subst h1 h2
      refine wpAny_bind ((aH prog w).pyHash (xB prog w k.2 t) ?_)
      first
        | exact wpAny_pure (.inr (.inr ⟨rfl,rfl,rfl⟩))
        | exact wpAny_bind (wpAny_pure (wpAny_pure (.inr (.inr ⟨rfl,rfl,rfl⟩))))
    · cases hr
  · rintro acc s' (⟨hr,_⟩ | ⟨hr,_⟩ | ⟨_,rfl,rfl⟩)
    · cases hr
    · cases hr
    · show wpAny _ _ (retInt (Builtin.Tuple.tupleHashOf [tupleKeyHash (aH prog w) (k.1.map Sum.inl),(aH prog w).hash (.inl k.2)])) _ _ _
      refine wpAny_ret_mkInt ?_
      show wpAny _ _ (if (decide (-(2:Int) ^ 63≤Builtin.Tuple.tupleHashOf [tupleKeyHash (aH prog w) (k.1.map Sum.inl),(aH prog w).hash (.inl k.2)])&&decide (Builtin.Tuple.tupleHashOf [tupleKeyHash (aH prog w) (k.1.map Sum.inl),(aH prog w).hash (.inl k.2)] < 2 ^ 63))=true then _ else _) Q E _
      unfold a7U reduceHash at h
      by_cases hr:(decide (-(2:Int) ^ 63≤Builtin.Tuple.tupleHashOf [tupleKeyHash (aH prog w) (k.1.map Sum.inl),(aH prog w).hash (.inl k.2)])&&decide (Builtin.Tuple.tupleHashOf [tupleKeyHash (aH prog w) (k.1.map Sum.inl),(aH prog w).hash (.inl k.2)] < 2 ^ 63))=true
      · rw [if_pos hr]
        rw [if_pos hr] at h
        exact wpAny_pure (by simpa [Nat.add_assoc] using h)
      · rw [if_neg hr]
        rw [if_neg hr] at h
        exact wpAny_bind (wpAny_rule (wpAny_pure (by simpa [Nat.add_assoc] using h)))
theorem ai3 (P:Program) (w0:World) {x y:NK} {a b:Addr} (hu:A.units+8 < cLine) (hx:zF s.heap x a) (hy:zF s.heap y b):SeqAt.EqAt A s (.ref a) (.ref b) (decide (x=y)):=by
  by_cases hab:a=b
  · subst hab
    have e:x=y:=adH (P:=P) (w:=w0) hx hy
    subst e
    rw [decide_eq_true rfl]
    exact SeqAt.EqAt.same _
  · obtain ⟨o,b1,t,n,e1,e2,e3,e4⟩:=hx
    obtain ⟨o',b2,t',n',g1,g2,g3,g4⟩:=hy
    refine SeqAt.EqAt.of_refs hab ?_
    have z:=SeqAt.RcAt.tuples (A:=A) (s:=s) (e:=fun j=>if j=0 then decide (x.1=y.1) else decide (x.2=y.2)) (show s.heap.IsTuple a #[.ref b1,.int x.2 t] from ⟨o,e1,e2,n,e3⟩) (show s.heap.IsTuple b #[.ref b2,.int y.2 t'] from ⟨o',g1,g2,n',g3⟩) (by omega) (fun j h1 h2=>by
      match j,h1,h2 with
      | 0,_,_ =>
        rw [if_pos rfl]
        intro prog' w' E' Q' hq
        have e:decide (x.1.map (Sum.inl:Int→Key)=y.1.map Sum.inl)=decide (x.1=y.1):=by
          rw [decide_eq_decide]
          exact ⟨a9I,fun z=>by rw [z]⟩
        exact wpAny_eqBool_tuple (knd:=aH prog' w') (by show A.units+1 < cLine;omega) (e4 prog' w') (g4 prog' w') (by rw [e];exact hq)
      | 1,_,_ =>
        rw [if_neg (by decide)]
        intro prog' w' E' Q' hq
        exact wpAny_eqBool_int (by
          have e:(x.2 == y.2)=decide (x.2=y.2):=rfl
          first
            | exact hq
            | (rw [e];exact hq))
      | j+2,h1,_=>exact absurd h1 (by simp))
    have e:((List.range (min (#[Value.ref b1,.int x.2 t]:Array Value).size (#[Value.ref b2,.int y.2 t']:Array Value).size)).all (fun j=>if j=0 then decide (x.1=y.1) else decide (x.2=y.2))&&(#[Value.ref b1,.int x.2 t]:Array Value).size == (#[Value.ref b2,.int y.2 t']:Array Value).size)=decide (x=y):=by
      show ((List.range 2).all _&&true)=_
      rw [show List.range 2=[0,1] from rfl]
      simp only [List.all_cons,List.all_nil,Bool.and_true,if_true,Nat.one_ne_zero,if_false]
      rw [Bool.eq_iff_iff,Bool.and_eq_true,decide_eq_true_eq,decide_eq_true_eq,decide_eq_true_eq]
      exact ⟨fun z=>Prod.ext z.1 z.2,fun z=>by rw [z];exact ⟨rfl,rfl⟩⟩
    rw [e] at z
    exact z
theorem a7V {m:Nat} {ks:List Key} {a:Addr} {Q:Bool→Shared→Prop} (hk:IsTupleKey (aH prog w) s.heap ks a) (h:Q true s):wpAny (model prog w) A (eqIsQuiet (m+1) (.ref a)) Q E s:=by
  have hT:=hk.typeIs
  obtain ⟨o,items,n,ho,_,hd,hi⟩:=hk
  unfold eqIsQuiet
  refine wpAny_bind (wpAny_specialOf hT PySem.F.slot_tuple_eq.lookup ?_)
  show wpAny _ _ (isInstance (.ref a) (.type "tuple") >>= _) _ _ s
  refine wpAny_bind (wpAny_isInstance hT isSubtype_tuple_tuple ?_)
  simp only [Bool.not_true,Bool.false_eq_true,if_false]
  refine wpAny_bind (wpAny_seqItems ho hd ?_)
  refine wpAny_bind ?_
  show wpAny _ _ (forIn items _ _) _ _ s
  rw [← Array.forIn_toList]
  refine wpAny_forIn_list _ (fun rest r s'=>r.1=none∧s'=s∧∀ v∈rest,carriedByValue v=true) _ ?_ ?_ _ _ ⟨rfl,rfl,hi.byValue⟩
  · rintro v rest r s' ⟨hr,rfl,hall⟩
    rw [eqIsQuiet_byValue _ (hall v List.mem_cons_self)]
    refine wpAny_bind (wpAny_pure ?_)
    simp only [Bool.not_true,Bool.false_eq_true,if_false]
    exact wpAny_pure ⟨rfl,rfl,fun u hu'=>hall u (List.mem_cons_of_mem _ hu')⟩
  · rintro ⟨r1,r2⟩ s' ⟨hr,rfl,_⟩
    simp only at hr
    subst hr
    exact wpAny_pure h
theorem adJ {k:NK} {a:Addr} {Q:Bool→Shared→Prop} (hk:zF s.heap k a) (h:Q true s):wpAny (model prog w) A (eqIsQuiet 8 (.ref a)) Q E s:=by
  have hT:=a9J hk
  obtain ⟨o,b,t,n,ho,_,hd,hi⟩:=hk
  unfold eqIsQuiet
  refine wpAny_bind (wpAny_specialOf hT PySem.F.slot_tuple_eq.lookup ?_)
  show wpAny _ _ (isInstance (.ref a) (.type "tuple") >>= _) _ _ s
  refine wpAny_bind (wpAny_isInstance hT isSubtype_tuple_tuple ?_)
  simp only [Bool.not_true,Bool.false_eq_true,if_false]
  refine wpAny_bind (wpAny_seqItems ho hd ?_)
  refine wpAny_bind ?_
  rw [← Array.forIn_toList]
  refine wpAny_forIn_list _ (fun rest r s'=>r.1=none∧s'=s∧∀ v∈rest,v = .ref b∨v = .int k.2 t) _ ?_ ?_ _ _ ⟨rfl,rfl,fun v hv=>by simpa using hv⟩
  · rintro v rest r s' ⟨hr,rfl,hall⟩
    rcases hall v List.mem_cons_self with rfl | rfl
    · refine wpAny_bind (a7V (m:=6) (hi prog w) ?_)
      simp only [Bool.not_true,Bool.false_eq_true,if_false]
      exact wpAny_pure ⟨rfl,rfl,fun u hu'=>hall u (List.mem_cons_of_mem _ hu')⟩
    · rw [eqIsQuiet_byValue _ rfl]
      refine wpAny_bind (wpAny_pure ?_)
      simp only [Bool.not_true,Bool.false_eq_true,if_false]
      exact wpAny_pure ⟨rfl,rfl,fun u hu'=>hall u (List.mem_cons_of_mem _ hu')⟩
  · rintro ⟨r1,r2⟩ s' ⟨hr,rfl,_⟩
    simp only at hr
    subst hr
    exact wpAny_pure h
end
def u0 (prog:Program) (w:World):HeapKind prog w NK where
  is:=zF
  hash:=a7U prog w
  draws:=fun k=>k.1.length+1+1+1
  room:=fun A=>A.units+8 < cLine
  inj:=fun hx hy=>adH (P:=prog) (w:=w) hx hy
  keeps:=fun x ho hd hs=>adI (P:=prog) (w:=w) x ho hd hs
  pyHash:=fun hu hk h=>abL hu hk h
  eqBool:=fun hu hx hy h=>ai3 prog w hu hx hy prog w _ _ h
  quiet:=fun hk h=>adJ hk h
end L2
namespace L2
open PySem PySem.Spec PyProof.Rows PySem.W
section
variable {X:Cx} {pins:List (Addr×Obj)} {σ:List (Option V)} {H:Hp} {s:Shared}
theorem anG {A:Around} {E:Value→Shared→Prop} {Q:Value→Shared→Prop} {name qual:Str} {params:Arguments} {body:Expr} {scope:Scope} {pos:Pos} {firstLine:Nat} {clos:List (Str×Addr)} {c T:Addr} {ps:Array Value} (I:Inv X pins σ H s) (hT:H T=some (.qF ps)) (st:mZ H qual pos ps) (C:CodeHd X.base c T) (hb:X.base.BuiltinsAt X.mg T) (hcode:X.env.code = .ref c) (hcl:closureFor scope X.env=pure clos)
    (h:∀ f c' ctv ps' H' s',Inv X pins σ H' s'→H f=none→H' f=some (qD (kla_obj name qual params body scope clos ((X.mg "__name__").getD .none) c' ctv))→iC H' c' qual→H' T=some (.qF ps')→mZ H' qual pos ps'→(∀ b u,b≠T→H b=some u→H' b=some u)→Q (.ref f) s') :
    wpAny (model X.prog X.w) A (makeFunction name qual params (.expr body) scope X.env [] [] [] pos firstLine) Q E s:=by
  have hP:s.heap.get? T=some (tabObj ps):=I.hok T _ hT
  have hg:s.heap.Ns mainGlobals X.mg:=I.mod.glob.keeps I.bk
  have hC:CodeHd s.heap c T:=C.keeps I.bk
  have hgT:mainGlobals≠T:=fun z=>by
    obtain ⟨o,es,ep,q,d,_⟩:=hg
    rw [z,hP] at q;cases q;cases d
  have hbs:s.heap.BuiltinsAt X.mg T:=by
    obtain ⟨bm,o,b1,b2,b3,b4,b5,b6⟩:=hb
    exact ⟨bm,o,b1,b2,b3,b4,I.bk _ _ b5,b6⟩
  rcases id st with st0 | ⟨c',e,rec⟩
  · subst st0
    refine kla_makeFunction (mg:=X.mg) hcl I.ok.glob hg hcode hC hP trivial rfl hgT hbs fun c' ctv h' tk hx hge hlt hrec htb=>?_
    obtain ⟨c₂,oc,vs,t,e2,hoc,hd,hv⟩:=hrec
    cases e2
    have I1:=I.grow (t':=s.toks) (c':=c') hT (fun b u n q=>hx b u n q) htb hge hoc
    have fr:H c'=none:=I.hok.fresh hge
    have tc:T≠c':=aN hT fr
    have ff:H h'.objs.size=none:=I.hok.fresh (Nat.le_trans hge (Nat.le_of_lt hlt))
    have I2:=I1.laid (t':=tk) (o:=qD (kla_obj name qual params body scope clos ((X.mg "__name__").getD .none) c' ctv)) (fun b u q=>Heap.get?_push_of_some _ q) (Nat.le_refl _) (n6 (Heap.get?_push_size _ rfl))
    have n1:c'≠h'.objs.size:=Nat.ne_of_lt hlt
    have n2:T≠h'.objs.size:=aN hT ff
    have rc:iC (upd (upd (upd H T (.qF (#[]++#[rawInt pos.line,rawInt pos.col,.ref c']))) c' (qD oc)) h'.objs.size (qD (kla_obj name qual params body scope clos ((X.mg "__name__").getD .none) c' ctv))) c' qual:=⟨oc,vs,t,by rw [aG n1,aD],hd,hv⟩
    refine h h'.objs.size c' ctv _ _ _ I2 ff aD rc (by rw [aG n2,aG tc,aD]) (.inr ⟨c',by simp,rc⟩) fun b u hb q=>?_
    rw [aG (aN q ff),aG (aN q fr),aG hb];exact q
  · subst e
    have hf:codeAmong pos (#[rawInt pos.line,rawInt pos.col,Value.ref c']:Array Value).toList=some (.ref c'):=by simp [codeAmong,rawInt]
    refine kla_makeFunctionHit (mg:=X.mg) hcl I.ok.glob hg hcode hC hP trivial hf hbs fun ctv h' tk hk hsz=>?_
    have ff:H h'.objs.size=none:=I.hok.fresh hsz
    have I1:=I.kept (t':=s.toks) hk
    have I2:=I1.laid (t':=tk) (o:=qD (kla_obj name qual params body scope clos ((X.mg "__name__").getD .none) c' ctv)) (fun b u q=>Heap.get?_push_of_some _ q) (Nat.le_refl _) (n6 (Heap.get?_push_size _ rfl))
    have kf:∀ b u,H b=some u→upd H h'.objs.size (qD (kla_obj name qual params body scope clos ((X.mg "__name__").getD .none) c' ctv)) b=some u:=fun b u q=>by rw [aG (aN q ff)];exact q
    exact h h'.objs.size c' ctv _ _ _ I2 ff aD (rec.keep fun a o u q=>kf a _ q) (kf _ _ hT) (.inr ⟨c',rfl,rec.keep fun a o u q=>kf a _ q⟩) fun b u _ q=>kf b u q
end
theorem ai4 {qt:Bool} {CX:xX} {P:Program} {w:World} {K:PySem.W.Frag} {mg:Str→Option Value} {base:Heap} {k:Nat} {name qual x:Str} {params:Arguments} {body:Expr} {scope:Scope} {N ps:List Str} (S:ScX N ps x scope) (n8:∀ y∈scope.names,y.1=x→y.2 ≠ .cell)
    {A:Around} {outer:List Env} {s:Shared} {H:Hp} {args:Args} {us:List Value} {vs:List V} {Q:VK} {E:XK} {f cc c':Addr} {pm ctv:Value} {u:Value} {vv:V}
    (hr:bQ qt (k+1) A) (e0:qH P w K mg base A outer s H) (hf:H f=some (qD (kla_obj name qual params body scope [(x,cc)] pm c' ctv))) (rc:iC H c' qual) (hc:s.heap.IsCell cc (some u)) (hH:H cc=none) (rv:RelV vv u)
    (hb:bindArgs (kla_fn name qual params body scope [(x,cc)] pm (.ref c') ctv) args=pure (ps.zip us)) (r:Vals vs us) (hl:vs.length=ps.length) (hCX:∀ e s',CX outer H s (fun _ _ _=>False) e s'→False)
    (hbody:bQ qt k (A.deeper (d9 qual scope s.heap.objs.size f (.ref c') [(x,cc)]))→∃ t,PE (cxX qt CX P w K mg base N qual scope f (.ref c') x cc A outer s H (fun _ _ _=>False)) body t∧t (start N (vv :: vs)) H Q) :
    codeAny (model P w) A (.call (.ref f) args) (CR CX outer P w H s Q E) s:=by
  have of':s.heap.get? f=some (kla_obj name qual params body scope [(x,cc)] pm c' ctv):=(e0.hok f _ hf).1
  have lim:s.heap.NoLimit:=e0.mod.nolimit.keeps fun b o e=>(e0.bs b o e).1
  have hrec:s.heap.CodeRec (.ref c') qual:=by
    obtain ⟨oo,vs',t,e,d,q⟩:=rc
    exact ⟨c',oo,vs',t,rfl,(e0.hok c' _ e).1,d,q⟩
  have hloc:∀ y∈ps.zip us,scope.names.lookup y.1=some .local:=fun ⟨n,v⟩ hy=>S.par n (List.of_mem_zip hy).1
  refine kla_callFunE hr.depth of' rfl S.co S.gen rfl hrec ?_
  rw [hb]
  refine wpAny_pure (a9H S.kind hloc fun s1 y=>⟨lim.keeps y.call.keep,kla_codeExpr ?_⟩)
  obtain ⟨t,ht,hq⟩:=hbody (hr.deeper _)
  have I:Inv (cxX qt CX P w K mg base N qual scope f (.ref c') x cc A outer s H (fun _ _ _=>False)) [] (start N (vv :: vs)) H s1:=zE S n8 hr.hd e0 hl r hc hH rv y
  exact wpAny_mono (ht [] s1 (start N (vv :: vs)) H _ I hq) (fun u' s' ⟨v,H',J,rv',q⟩=>⟨v,H',J.os,J.bare,J.base,J.hok,rv',q⟩) fun e s' hs=>wpAny_mono hs (fun _ s'' z=>(hCX _ _ z).elim) fun e' s'' z=>(hCX _ _ z).elim
end L2
namespace L2
open PySem PySem.Spec PyProof.Rows
inductive D where
  | non | bl (b:Bool) | int (i:Int) | str (x:Str) | tup (xs:List D) | ref (a:Addr) | ty (n:String)
abbrev Fg:=PySem.W.Frag
abbrev a5U (H:Hp) (a:Addr) (xs:List V):Prop:=True
theorem ai5 {H:Hp} {a:Addr} {xs:List V} (h:H a=some (.tup xs)):a5U H a xs:=trivial
mutual
inductive RD (K:Fg) (H:Hp):D→V→Prop where
  | non:RD K H .non .non
  | bl (b:Bool):RD K H (.bl b) (.bl b)
  | int (i:Int):RD K H (.int i) (.int i)
  | str (x:Str):RD K H (.str x) (.str x)
  | ty (n:String):RD K H (.ty n) (.ty n)
  | ref (a:Addr):RD K H (.ref a) (.ref a)
  | tup {a:Addr} {xs:List V} {ds:List D}:pF K H a xs→bF K H ds xs→a5U H a xs→RD K H (.tup ds) (.ref a)
inductive bF (K:Fg) (H:Hp):List D→List V→Prop where
  | nil:bF K H [] []
  | cons {d:D} {v:V} {ds:List D} {vs:List V}:RD K H d v→bF K H ds vs→bF K H (d :: ds) (v :: vs)
end
structure Ts (H H':Hp):Prop where
  tups:∀ a xs,H a=some (.tup xs)→H' a=some (.tup xs)
  cQ:∀ a o u,H a=some (.mV o u)→H' a=some (.mV o u)
theorem Ts.refl (H:Hp):Ts H H:=⟨fun _ _ h=>h,fun _ _ _ h=>h⟩
theorem Ts.trans {H H1 H2:Hp} (a:Ts H H1) (b:Ts H1 H2):Ts H H2:=⟨fun c xs h=>b.tups c xs (a.tups c xs h),fun c o u h=>b.cQ c o u (a.cQ c o u h)⟩
theorem Ts.same {H H':Hp} (s:Same H H'):Ts H H':=⟨fun a _ h=>s a _ h,fun a _ _ h=>s a _ h⟩
theorem Ts.rd {H H':Hp} (t:Ts H H') {a:Addr} {xs:List V} (h:Rd H a (.tup xs)):Rd H' a (.tup xs):=by
  rcases h with h | ⟨o,h⟩
  · exact .inl (t.tups _ _ h)
  · exact .inr ⟨o,t.cQ _ _ _ h⟩
theorem Ts.sqT {K:Fg} {H H':Hp} (t:Ts H H') {a:Addr} {xs:List V} (h:pF K H a xs):pF K H' a xs:=h.elim (fun q => .inl (t.rd q)) .inr
theorem a5U.mono {H H':Hp} (t:Ts H H') {a:Addr} {xs:List V} (h:a5U H a xs):a5U H' a xs:=trivial
theorem aW {H:Hp} {p:Addr} {o:HO} (h:H p=none):Same H (upd H p o):=fun b u e=>by
  rw [aG (aN e h)];exact e
mutual
theorem RD.mono {K:Fg} {H H':Hp} (t:Ts H H'):∀ {d:D} {v:V},RD K H d v→RD K H' d v
  | _,_,.non => .non
  | _,_,.bl b => .bl b
  | _,_,.int i => .int i
  | _,_,.str x => .str x
  | _,_,.ty n => .ty n
  | _,_,.ref a => .ref a
  | _,_,.tup h r e => .tup (t.sqT h) (bF.mono t r) (e.mono t)
theorem bF.mono {K:Fg} {H H':Hp} (t:Ts H H'):∀ {ds:List D} {vs:List V},bF K H ds vs→bF K H' ds vs
  | _,_,.nil => .nil
  | _,_,.cons h r => .cons (RD.mono t h) (bF.mono t r)
end
section
variable {K:Fg} {H:Hp}
theorem bF.length:∀ {ds:List D} {vs:List V},bF K H ds vs→ds.length=vs.length
  | _,_,.nil=>rfl
  | _,_,.cons _ r=>congrArg (·+1) (bF.length r)
theorem bF.append:∀ {ds:List D} {vs:List V} {es:List D} {ws:List V},bF K H ds vs→bF K H es ws→bF K H (ds++es) (vs++ws)
  | _,_,_,_,.nil,s=>s
  | _,_,_,_,.cons h r,s => .cons h (bF.append r s)
theorem bF.get:∀ {ds:List D} {vs:List V} {i:Nat} {d:D},bF K H ds vs→ds[i]?=some d→∃ v,vs[i]?=some v∧RD K H d v
  | _,_,_,_,.nil,e=>by simp at e
  | _,_,0,_,.cons r _,e=>by simp at e;subst e;exact ⟨_,rfl,r⟩
  | _,_,i+1,d,.cons _ t,e=>by
    obtain ⟨u,h1,h2⟩:=bF.get (i:=i) (d:=d) t (by simpa using e)
    exact ⟨u,by simpa using h1,h2⟩
theorem bF.ai6:∀ {ds:List D} {vs:List V} {i:Nat} {v:V},bF K H ds vs→vs[i]?=some v→∃ d,ds[i]?=some d∧RD K H d v
  | _,_,_,_,.nil,e=>by simp at e
  | _,_,0,_,.cons r _,e=>by simp at e;subst e;exact ⟨_,rfl,r⟩
  | _,_,i+1,d,.cons _ t,e=>by
    obtain ⟨u,h1,h2⟩:=bF.ai6 (i:=i) (v:=d) t (by simpa using e)
    exact ⟨u,by simpa using h1,h2⟩
theorem bF.set {d:D} {v:V} (r:RD K H d v):∀ {ds:List D} {vs:List V} (i:Nat),bF K H ds vs→bF K H (ds.set i d) (vs.set i v)
  | _,_,_,.nil => .nil
  | _,_,0,.cons _ t => .cons r t
  | _,_,i+1,.cons q t => .cons q (bF.set r i t)
theorem bF.drop:∀ {ds:List D} {vs:List V} (n:Nat),bF K H ds vs→bF K H (ds.drop n) (vs.drop n)
  | _,_,0,r=>r
  | _,_,_+1,.nil => .nil
  | _,_,n+1,.cons _ t=>bF.drop n t
theorem bF.take:∀ {ds:List D} {vs:List V} (n:Nat),bF K H ds vs→bF K H (ds.take n) (vs.take n)
  | _,_,0,_ => .nil
  | _,_,_+1,.nil => .nil
  | _,_,n+1,.cons r t => .cons r (bF.take n t)
theorem bF.ints (ns:List Int):bF K H (ns.map D.int) (ns.map V.int):=by
  induction ns with
  | nil=>exact .nil
  | cons n r ih=>exact .cons (.int n) ih
theorem bF.uR {ds:List D} {vs:List V} (r:bF K H ds vs):vs=[]↔ds=[]:=by
  cases r <;> simp
end
abbrev DK:=Key ⊕ List Key
structure uW where
  name:Str
  qual:Str
  params:Arguments
  body:List Stmt
  scope:Scope
  x:Str
inductive GO where
  | lst (ds:List D) | rol (ds:List D) | iI (t:Bool) (kvs:List (DK×D)) | ins (C:Addr) (fs:List (Str×D)) | exn (C:Addr) | rdc (o:Obj) (t:Bool) (kvs:List (DK×D)) | tpl (ds:List D) | kst (ks:List (List Int)) | nst (ks:List NK) | tab (q:Str) (p:Pos) | clo (c:uW) (d:D)
abbrev Gp:=Addr→Option GO
def aL (G:Gp) (a:Addr) (o:GO):Gp:=fun b=>if b=a then some o else G b
theorem aF {G:Gp} {a:Addr} {o:GO}:aL G a o a=some o:=by unfold aL;rw [if_pos rfl]
theorem aP {G:Gp} {a b:Addr} {o:GO} (h:b≠a):aL G a o b=G b:=by unfold aL;rw [if_neg h]
theorem bH {G:Gp} {a b:Addr} {o u:GO} (h:G b=some u) (n:G a=none):aL G a o b=some u:=by
  rw [aP];exact h
  intro e;subst e;rw [h] at n;cases n
def Le (G G':Gp):Prop:=∀ a o,G a=some o→G' a=some o
theorem Le.refl (G:Gp):Le G G:=fun _ _ h=>h
theorem Le.trans {G G1 G2:Gp} (a:Le G G1) (b:Le G1 G2):Le G G2:=fun c o h=>b c o (a c o h)
theorem Le.new {G:Gp} {a:Addr} {o:GO} (n:G a=none):Le G (aL G a o):=fun _ _ h=>bH h n
theorem Le.free {G G':Gp} (l:Le G G') {a:Addr} (h:G' a=none):G a=none:=by
  cases q:G a with
  | none=>rfl
  | some o=>have:=l a o q;rw [h] at this;cases this
def kD:Key→D
  | .inl i => .int i
  | .inr x => .str x
def dkD:DK→D
  | .inl k=>kD k
  | .inr ks => .tup (ks.map kD)
inductive Two {α β:Type} (P:α→β→Prop):List α→List β→Prop where
  | nil:Two P [] []
  | cons {a:α} {b:β} {as:List α} {bs:List β}:P a b→Two P as bs→Two P (a :: as) (b :: bs)
theorem Two.imp {α β:Type} {P Q:α→β→Prop} (f:∀ a b,P a b→Q a b):∀ {as:List α} {bs:List β},Two P as bs→Two Q as bs
  | _,_,.nil => .nil
  | _,_,.cons h r => .cons (f _ _ h) (Two.imp f r)
theorem Two.length {α β:Type} {P:α→β→Prop}:∀ {as:List α} {bs:List β},Two P as bs→as.length=bs.length
  | _,_,.nil=>rfl
  | _,_,.cons _ r=>congrArg (·+1) (Two.length r)
def a5V (C a:Addr) (h:Heap):Prop:=∃ o vs,h.get? a=some o∧o.cls = .ref C∧o.data = .fields vs
def toI (ks:List Key):List Int:=ks.map fun k=>match k with
  | .inl i=>i
  | .inr _=>0
theorem ai7 (ns:List Int):toI (ns.map Sum.inl)=ns:=by
  unfold toI
  rw [List.map_map]
  exact List.map_id _
def ay4 (P:Program) (w:World) (a:Addr) (xs:List (List Key×Addr×Value)) (h:Heap):Prop:=(a == sysModules)=false∧∃ o es ep,h.get? a=some o∧o.ExactDict∧o.data = .dict es ep∧es.toList=xs.map (entryOfKey (tupleKind (aH P w)))∧(xs.map (·.1)).Nodup
def anJ (P:Program) (w:World) (a:Addr) (xs:List (NK×Addr×Value)) (h:Heap):Prop:=(a == sysModules)=false∧∃ o es ep,h.get? a=some o∧o.ExactDict∧o.data = .dict es ep∧es.toList=xs.map (entryOfKey (u0 P w))∧(xs.map (·.1)).Nodup
def NSq (K:Fg) (H:Hp) (k:NK) (a:Addr):Prop:=∃ b,pF K H a [.ref b,.int k.2]∧pF K H b (k.1.map V.int)
def OR (K:Fg) (H:Hp) (a:Addr):GO→Prop
  | .lst ds=>∃ xs,H a=some (.lst xs)∧bF K H ds xs
  | .rol ds=>∃ xs,tE K H a xs∧bF K H ds xs
  | .iI t kvs=>(t=false∧∃ xs:List (Key×V),H a=some (.dK xs)∧Two (fun p q=>p.1 = .inl q.1∧RD K H p.2 q.2) kvs xs) ∨
      (t=true∧∃ xs:List (List Key×V),H a=some (.dT xs)∧Two (fun p q=>p.1 = .inr q.1∧RD K H p.2 q.2) kvs xs)
  | .ins C fs=>∃ (dx:Addr) (vs:List (Str×V)),H a=some (.ins C dx vs)∧Two (fun p q=>p.1=q.1∧RD K H p.2 q.2) fs vs
  | .rdc o t kvs=>(t=false∧∃ xs:List (Key×V),H a=some (.mV o (.dK xs))∧Two (fun p q=>p.1 = .inl q.1∧RD K H p.2 q.2) kvs xs) ∨
      (t=true∧∃ xs:List (List Key×V),H a=some (.mV o (.dT xs))∧Two (fun p q=>p.1 = .inr q.1∧RD K H p.2 q.2) kvs xs)
  | .tpl ds=>∃ xs,pF K H a xs∧bF K H ds xs
  | .tab q p=>∃ ps,H a=some (.qF ps)∧mZ H q p ps
  | .clo c d=>∃ (cc c':Addr) (doc pm ctv:Value) (ob:Obj) (u:Value) (v:V),H a=some (qD (PySem.W.fnMade c.name c.qual c.params c.body c.scope [(c.x,cc)] doc pm c' ctv))∧iC H c' c.qual∧H cc=some (qD ob)∧ob.data = .cell (some u)∧RelV v u∧RD K H d v
  | .nst ks=>∃ (P:Program) (w:World) (xs:List (NK×Addr×Value)),H a=some (.ext (anJ P w a xs))∧xs.map (·.1)=ks∧∀ x∈xs,NSq K H x.1 x.2.1
  | .kst ks=>∃ (P:Program) (w:World) (xs:List (List Key×Addr×Value)),H a=some (.ext (ay4 P w a xs))∧(xs.map fun x=>toI x.1)=ks∧∀ x∈xs,x.1=(toI x.1).map Sum.inl∧pF K H x.2.1 (x.1.map kV)
  | .exn C=>∃ o vs,H a=some (.mV o (.ext (a5V C a)))∧o.data = .fields vs∧vs[2]?=some .none
def HR (K:Fg) (H:Hp) (G:Gp):Prop:=∀ a o,G a=some o→OR K H a o
theorem OR.keep {K:Fg} {H H':Hp} {a:Addr} {o:GO} (t:Ts H H') (h:OR K H a o) (k:∀ u,H a=some u→H' a=some u):OR K H' a o:=by
  cases o with
  | lst ds=>obtain ⟨xs,e,r⟩:=h;exact ⟨xs,k _ e,r.mono t⟩
  | rol ds =>
    obtain ⟨xs,e,r⟩:=h
    refine ⟨xs,?_,r.mono t⟩
    rcases e with (e | ⟨o,e⟩) | e
    · exact .inl (.inl (k _ e))
    · exact .inl (.inr ⟨o,k _ e⟩)
    · exact .inr e
  | iI b kvs =>
    rcases h with ⟨z,xs,e,r⟩ | ⟨z,xs,e,r⟩
    · exact .inl ⟨z,xs,k _ e,r.imp fun _ _ q=>⟨q.1,q.2.mono t⟩⟩
    · exact .inr ⟨z,xs,k _ e,r.imp fun _ _ q=>⟨q.1,q.2.mono t⟩⟩
  | ins C fs=>obtain ⟨dx,vs,e,r⟩:=h;exact ⟨dx,vs,k _ e,r.imp fun _ _ q=>⟨q.1,q.2.mono t⟩⟩
  | rdc ob b kvs =>
    rcases h with ⟨z,xs,e,r⟩ | ⟨z,xs,e,r⟩
    · exact .inl ⟨z,xs,k _ e,r.imp fun _ _ q=>⟨q.1,q.2.mono t⟩⟩
    · exact .inr ⟨z,xs,k _ e,r.imp fun _ _ q=>⟨q.1,q.2.mono t⟩⟩
  | exn C=>obtain ⟨o,vs,e,r⟩:=h;exact ⟨o,vs,k _ e,r⟩
  | tpl ds=>obtain ⟨xs,e,r⟩:=h;exact ⟨xs,t.sqT e,r.mono t⟩
  | kst ks=>obtain ⟨P,w,xs,e,r,q⟩:=h;exact ⟨P,w,xs,k _ e,r,fun x hx=>⟨(q x hx).1,t.sqT (q x hx).2⟩⟩
  | nst ks=>obtain ⟨P,w,xs,e,r,q⟩:=h;exact ⟨P,w,xs,k _ e,r,fun x hx=>(q x hx).elim fun b z=>⟨b,t.sqT z.1,t.sqT z.2⟩⟩
  | tab q p=>obtain ⟨ps,e,r⟩:=h;exact ⟨ps,k _ e,r.keep fun a o φ=>t.cQ a o _⟩
  | clo c d=>obtain ⟨cc,c',doc,pm,ctv,ob,u,v,e1,e2,e3,e4,e5,e6⟩:=h;exact ⟨cc,c',doc,pm,ctv,ob,u,v,k _ e1,e2.keep fun a o φ=>t.cQ a o _,t.cQ _ _ _ e3,e4,e5,e6.mono t⟩
theorem HR.same {K:Fg} {H H':Hp} {G:Gp} (h:HR K H G) (s:Same H H'):HR K H' G:=fun a o e=>(h a o e).keep (.same s) fun u q=>s a u q
theorem HR.le {K:Fg} {H:Hp} {G G':Gp} (h:HR K H G') (l:Le G G'):HR K H G:=fun a o e=>h a o (l a o e)
theorem HR.put {K:Fg} {H:Hp} {G:Gp} {p:Addr} {o:HO} {u:GO} (h:HR K H G) (n:H p=none) (new:OR K (upd H p o) p u):HR K (upd H p o) (aL G p u):=fun a v e=>by
  by_cases q:a=p
  · subst q;rw [aF] at e;cases e;exact new
  · rw [aP q] at e
    exact (h a v e).keep (.same (aW n)) fun w z=>aW n a w z
theorem HR.turn {K:Fg} {H:Hp} {G:Gp} {p:Addr} {o:HO} {u:GO} (h:HR K H G) (t:Ts H (upd H p o)) (new:OR K (upd H p o) p u):HR K (upd H p o) (aL G p u):=fun a v e=>by
  by_cases q:a=p
  · subst q;rw [aF] at e;cases e;exact new
  · rw [aP q] at e
    exact (h a v e).keep t fun w z=>by rw [aG q];exact z
theorem Ts.turn {H:Hp} {p:Addr} {o u:HO} (e:H p=some u) (h1:∀ xs,u ≠ .tup xs) (h2:∀ ob w,u ≠ .mV ob w):Ts H (upd H p o):=by
  refine ⟨fun a xs q=>?_,fun a ob w q=>?_⟩
  · rw [aG];exact q
    intro z;subst z;rw [e] at q;exact h1 xs (Option.some.inj q)
  · rw [aG];exact q
    intro z;subst z;rw [e] at q;exact h2 ob w (Option.some.inj q)
abbrev aQ:=List (Option D)
abbrev dG:=D→Gp→Prop
abbrev bL:=aQ→Gp→dG→Prop
abbrev rZ:=aQ→Gp→(Bool→Gp→Prop)→Prop
abbrev lO:=aQ→Gp→(List D→Gp→Prop)→Prop
def at3:aQ→Nat→Option D
  | [],_=>none
  | x :: _,0=>x
  | _ :: r,n+1=>at3 r n
def wH:aQ→Nat→D→aQ
  | [],_,_=>[]
  | _ :: r,0,d=>some d :: r
  | x :: r,n+1,d=>x :: wH r n d
inductive SR (K:Fg) (H:Hp):aQ→St→Prop where
  | nil:SR K H [] []
  | none {ρ:aQ} {σ:St} {v:Option V}:SR K H ρ σ→SR K H (Option.none :: ρ) (v :: σ)
  | some {ρ:aQ} {σ:St} {d:D} {v:V}:RD K H d v→SR K H ρ σ→SR K H (Option.some d :: ρ) (Option.some v :: σ)
theorem SR.mono {K:Fg} {H H':Hp} (t:Ts H H'):∀ {ρ:aQ} {σ:St},SR K H ρ σ→SR K H' ρ σ
  | _,_,.nil => .nil
  | _,_,.none r => .none (SR.mono t r)
  | _,_,.some h r => .some (h.mono t) (SR.mono t r)
theorem SR.get {K:Fg} {H:Hp}:∀ {ρ:aQ} {σ:St} {i:Nat} {d:D},SR K H ρ σ→at3 ρ i=Option.some d→∃ v,σ[i]?=Option.some (Option.some v)∧RD K H d v
  | _,_,_,_,.nil,e=>by simp [at3] at e
  | _,_,0,_,.none _,e=>by simp [at3] at e
  | _,_,0,_,.some h _,e=>by simp [at3] at e;subst e;exact ⟨_,rfl,h⟩
  | _,_,i+1,_,.none r,e=>by
    obtain ⟨v,h1,h2⟩:=SR.get (i:=i) r (by simpa [at3] using e)
    exact ⟨v,by simpa using h1,h2⟩
  | _,_,i+1,_,.some _ r,e=>by
    obtain ⟨v,h1,h2⟩:=SR.get (i:=i) r (by simpa [at3] using e)
    exact ⟨v,by simpa using h1,h2⟩
theorem SR.set {K:Fg} {H:Hp} {d:D} {v:V} (q:RD K H d v):∀ {ρ:aQ} {σ:St} (i:Nat),SR K H ρ σ→SR K H (wH ρ i d) (σ.set i (Option.some v))
  | _,_,_,.nil => .nil
  | _,_,0,.none r => .some q r
  | _,_,0,.some _ r => .some q r
  | _,_,i+1,.none r => .none (SR.set q i r)
  | _,_,i+1,.some h r => .some h (SR.set q i r)
theorem SR.len {K:Fg} {H:Hp}:∀ {ρ:aQ} {σ:St},SR K H ρ σ→ρ.length=σ.length
  | _,_,.nil=>rfl
  | _,_,.none r=>congrArg (·+1) (SR.len r)
  | _,_,.some _ r=>congrArg (·+1) (SR.len r)
def cT (n:Nat) (ds:List D):aQ:=ds.map Option.some++List.replicate (n - ds.length) Option.none
theorem SR.nones {K:Fg} {H:Hp}:∀ n:Nat,SR K H (List.replicate n Option.none) (List.replicate n Option.none)
  | 0 => .nil
  | n+1 => .none (SR.nones n)
theorem SR.entry {K:Fg} {H:Hp} {k:Nat}:∀ {ds:List D} {vs:List V},bF K H ds vs→SR K H (ds.map Option.some++List.replicate k Option.none) (vs.map Option.some++List.replicate k Option.none)
  | _,_,.nil=>SR.nones k
  | _,_,.cons h r => .some h (SR.entry r)
def upE (K:Fg) (t:bL):TE:=fun σ H Q=>∃ ρ G R,SR K H ρ σ∧HR K H G∧t ρ G R∧∀ v H' d G',Ts H H'→RD K H' d v→HR K H' G'→R d G'→Q v H'
def upT (K:Fg) (t:rZ):TT:=fun σ H Q=>∃ ρ G R,SR K H ρ σ∧HR K H G∧t ρ G R∧∀ b H' G',Ts H H'→HR K H' G'→R b G'→Q b H'
def upA (K:Fg) (t:lO):TA:=fun σ H Q=>∃ ρ G R,SR K H ρ σ∧HR K H G∧t ρ G R∧∀ vs H' ds G',Ts H H'→bF K H' ds vs→HR K H' G'→R ds G'→Q vs H'
abbrev bV (X:Cx) (e:Expr) (t:bL):Prop:=PE X e (upE X.K t)
abbrev PT3 (X:Cx) (e:Expr) (t:rZ):Prop:=PT X e (upT X.K t)
abbrev PW3 (X:Cx) (e:Expr) (t:rZ):Prop:=PW X e (upT X.K t)
abbrev PA3 (X:Cx) (es:List Expr) (t:lO):Prop:=PA X es (upA X.K t)
structure dH where
  nx:aQ→Gp→Prop
  rt:dG
  bk:aQ→Gp→Prop:=fun _ _=>False
  ct:aQ→Gp→Prop:=fun _ _=>False
abbrev bK:=dH→aQ→Gp→Prop
structure UpD (K:Fg) (E:dH) (F:Ends):Prop where
  nx:∀ ρ G σ H',SR K H' ρ σ→HR K H' G→E.nx ρ G→F.nx σ H'
  rt:∀ d G v H',RD K H' d v→HR K H' G→E.rt d G→F.rt v H'
  bk:∀ ρ G σ H',SR K H' ρ σ→HR K H' G→E.bk ρ G→F.bk σ H'
  ct:∀ ρ G σ H',SR K H' ρ σ→HR K H' G→E.ct ρ G→F.ct σ H'
def upS (K:Fg) (t:bK):TS:=fun F σ H=>∃ ρ G E,SR K H ρ σ∧HR K H G∧t E ρ G∧UpD K E F
abbrev PS3 (X:Cx) (st:Stmt) (t:bK):Prop:=PS X st (upS X.K t)
abbrev uX (X:Cx) (st:List Stmt) (t:bK):Prop:=xQ X st (upS X.K t)
section
variable {X:Cx}
theorem PE.imp {e:Expr} {t t':TE} (h:PE X e t) (k:∀ σ H Q,t' σ H Q→t σ H Q):PE X e t':=fun pins s σ H Q I q=>h pins s σ H Q I (k _ _ _ q)
theorem PT.imp {e:Expr} {t t':TT} (h:PT X e t) (k:∀ σ H Q,t' σ H Q→t σ H Q):PT X e t':=fun pins s σ H Q I q=>h pins s σ H Q I (k _ _ _ q)
theorem PW.imp {e:Expr} {t t':TT} (h:PW X e t) (k:∀ σ H Q,t' σ H Q→t σ H Q):PW X e t':=fun wh pins s σ H Q I q=>h wh pins s σ H Q I (k _ _ _ q)
theorem PA.imp {e:List Expr} {t t':TA} (h:PA X e t) (k:∀ σ H Q,t' σ H Q→t σ H Q):PA X e t':=fun p pins s σ H Q I q=>h p pins s σ H Q I (k _ _ _ q)
theorem PS.imp {e:Stmt} {t t':TS} (h:PS X e t) (k:∀ F σ H,t' F σ H→t F σ H):PS X e t':=fun pins s σ H F I q=>h pins s σ H F I (k _ _ _ q)
def KF (K:Fg) (H:Hp):Prop:=∀ b o,K.lookup b=some o→H b=none
theorem qP {pins:List (Addr×Obj)} {σ:St} {H:Hp} {s:Shared} (I:Inv X pins σ H s):KF X.K H:=fun b o e=>(I.bs b o (I.ok.mod.kin b o e)).2
theorem PE.kf {e:Expr} {t:TE} (h:PE X e t):PE X e (fun σ H Q=>t σ H fun v H'=>KF X.K H'→Q v H'):=fun pins s σ H Q I q =>
  cD (h pins s σ H _ I q) fun _ _ ⟨v,H',I',r,q'⟩=>⟨v,H',I',r,q' (qP I')⟩
theorem xQ.imp {e:List Stmt} {t t':TS} (h:xQ X e t) (k:∀ F σ H,t' F σ H→t F σ H):xQ X e t':=fun pins s σ H F I q=>h pins s σ H F I (k _ _ _ q)
end
theorem gC {K:Fg} {H:Hp} {G:Gp} {p:Addr} {o:HO} (g:HR K H G) (n:H p=none) (k:KF K (upd H p o)):G p=none:=by
  have kn:K.lookup p=none:=by
    cases q:K.lookup p with
    | none=>rfl
    | some u=>have:=k p u q;rw [aD] at this;cases this
  cases q:G p with
  | none=>rfl
  | some u =>
    have z:=g p u q
    cases u with
    | lst ds=>obtain ⟨xs,e,_⟩:=z;rw [n] at e;cases e
    | rol ds =>
      obtain ⟨xs,e,_⟩:=z
      rcases e with (e | ⟨o,e⟩) | ⟨o,_,_,e,_⟩
      · rw [n] at e;cases e
      · rw [n] at e;cases e
      · rw [kn] at e;cases e
    | iI tt kvs =>
      rcases z with ⟨_,xs,e,_⟩ | ⟨_,xs,e,_⟩
      · rw [n] at e;cases e
      · rw [n] at e;cases e
    | rdc ob tt kvs =>
      rcases z with ⟨_,xs,e,_⟩ | ⟨_,xs,e,_⟩
      · rw [n] at e;cases e
      · rw [n] at e;cases e
    | ins C fs=>obtain ⟨dx,vs,e,_⟩:=z;rw [n] at e;cases e
    | exn C=>obtain ⟨o,vs,e,_⟩:=z;rw [n] at e;cases e
    | kst ks=>obtain ⟨_,_,_,e,_⟩:=z;rw [n] at e;cases e
    | nst ks=>obtain ⟨_,_,_,e,_⟩:=z;rw [n] at e;cases e
    | tab q p=>obtain ⟨_,e,_⟩:=z;rw [n] at e;cases e
    | clo c d=>obtain ⟨_,_,_,_,_,_,_,_,e,_⟩:=z;rw [n] at e;cases e
    | tpl ds =>
      obtain ⟨xs,e,_⟩:=z
      rcases e with (e | ⟨o,e⟩) | ⟨o,_,_,e,_⟩
      · rw [n] at e;cases e
      · rw [n] at e;cases e
      · rw [kn] at e;cases e
section
variable {X:Cx} {a b c:Expr} {ta tb tc:bL} {pos:Pos}
def aB (i:Nat):bL:=fun ρ G R=>match at3 ρ i with
  | some d=>R d G
  | none=>False
def bA (d:D):bL:=fun _ G R=>R d G
theorem anK {K:Fg} {i:Nat} {σ:St} {H:Hp} {Q:VK} (h:upE K (aB i) σ H Q):amA i σ H Q:=by
  obtain ⟨ρ,G,R,s,g,t,k⟩:=h
  unfold aB at t
  split at t
  · rename_i d e
    obtain ⟨v,h1,h2⟩:=s.get e
    exact ⟨v,h1,k v H d G (.refl H) h2 g t⟩
  · exact t.elim
theorem abN {K:Fg} {d:D} {v:V} (r:∀ H,RD K H d v) {σ:St} {H:Hp} {Q:VK} (h:upE K (bA d) σ H Q):tC v σ H Q:=by
  obtain ⟨ρ,G,R,s,g,t,k⟩:=h
  exact k v H d G (.refl H) (r H) g t
theorem adK (i:Nat) {x:Str} {pos:Pos} (hN:X.N[i]?=some x:=by rfl) (hv:Vis X.env.scope x:=by first | exact Or.inl rfl | exact Or.inr (Or.inl rfl) | exact Or.inr (Or.inr rfl)) (hd:(x == ("__debug__" : Str))=false:=by decide)
    (hcd:(x == ("__classdict__" : Str))=false:=by decide):bV X (.Name x pos) (aB i):=PE.imp (a7L hN hv hd hcd) fun _ _ _ h=>anK h
theorem at8 {i j pos}:bV X (.Constant (.int i) j pos) (bA (.int i)):=PE.imp amB fun _ _ _ h=>abN (fun _ => .int i) h
theorem ay5 {b j pos}:bV X (.Constant (.bool b) j pos) (bA (.bl b)):=PE.imp arX fun _ _ _ h=>abN (fun _ => .bl b) h
theorem at9 {j pos}:bV X (.Constant .none j pos) (bA .non):=PE.imp amC fun _ _ _ h=>abN (fun _ => .non) h
theorem atA {x j pos}:bV X (.Constant (.str x) j pos) (bA (.str x)):=PE.imp amD fun _ _ _ h=>abN (fun _ => .str x) h
theorem adL {x:Str} {d:D} {v:V} {u:Value} {pos:Pos} (hg:Gl X x) (hm:X.mg x=some u) (r:RelV v u) (rd:∀ H,RD X.K H d v) (hd:(x == ("__debug__" : Str))=false:=by decide):bV X (.Name x pos) (bA d) :=
  PE.imp (ah6 hg hm r hd) fun _ _ _ h=>abN rd h
theorem anL {x:Str} {n:String} {pos:Pos} (hg:Gl X x) (hm:X.mg x=none) (hv:bootBuiltins x=some (.type n)) (hn:x ≠ "__name__" := by decide) (hd:(x == ("__debug__" : Str))=false:=by decide):bV X (.Name x pos) (bA (.ty n)) :=
  PE.imp (ah7 hg hm hv (v := .ty n) rfl hn hd) fun _ _ _ h=>abN (fun _ => .ty n) h
abbrev R3:=D→D→Gp→dG→Prop
def OpI (K:Fg) (r:R2) (r3:R3):Prop:=∀ (H:Hp) (x y:D) (vx vy:V) (G:Gp) (R:dG) (Q:VK),RD K H x vx→RD K H y vy→HR K H G→r3 x y G R→(∀ v H' d G',Ts H H'→RD K H' d v→HR K H' G'→R d G'→Q v H')→r vx vy H fun v H'=>KF K H'→Q v H'
def zG (X:Cx) (f:Value→Value→Sem Value) (r3:R3):Prop:=∃ r,pG X f r∧OpI X.K r r3
def OpC (K:Fg) (r:R2) (r3:R3):Prop:=∀ (H:Hp) (x y:D) (vx vy:V) (G:Gp) (R:dG) (Q:VK),RD K H x vx→RD K H y vy→HR K H G→r3 x y G R→(∀ v H' d G',Ts H H'→RD K H' d v→HR K H' G'→R d G'→Q v H')→r vx vy H Q
def qC (X:Cx) (f:Value→Value→Sem Value) (r3:R3):Prop:=∃ r,pG X f r∧OpC X.K r r3
def aJ (r:R3) (ta tb:bL):bL:=fun ρ G R=>ta ρ G fun x G1=>tb ρ G1 fun y G2=>r x y G2 R
theorem atB {K:Fg} {r:R2} {r3:R3} (o:OpI K r r3) {σ:St} {H:Hp} {Q:VK} (h:upE K (aJ r3 ta tb) σ H Q):tOp r (upE K ta) (upE K tb) σ H fun v H'=>KF K H'→Q v H':=by
  obtain ⟨ρ,G,R,s,g,t,k⟩:=h
  refine ⟨ρ,G,_,s,g,t,fun vx H1 x G1 t1 rx g1 t'=>?_⟩
  refine ⟨ρ,G1,_,s.mono t1,g1,t',fun vy H2 y G2 t2 ry g2 t''=>?_⟩
  exact o H2 x y vx vy G2 R Q (rx.mono t2) ry g2 t'' fun v H' d G' t3=>k v H' d G' ((t1.trans t2).trans t3)
theorem a7Z {K:Fg} {r:R2} {r3:R3} (o:OpC K r r3) {σ:St} {H:Hp} {Q:VK} (h:upE K (aJ r3 ta tb) σ H Q):tOp r (upE K ta) (upE K tb) σ H Q:=by
  obtain ⟨ρ,G,R,s,g,t,k⟩:=h
  refine ⟨ρ,G,_,s,g,t,fun vx H1 x G1 t1 rx g1 t'=>?_⟩
  refine ⟨ρ,G1,_,s.mono t1,g1,t',fun vy H2 y G2 t2 ry g2 t''=>?_⟩
  exact o H2 x y vx vy G2 R Q (rx.mono t2) ry g2 t'' fun v H' d G' t3=>k v H' d G' ((t1.trans t2).trans t3)
theorem ay6 {op:Operator} {r3:R3} (o:zG X (binaryOp op) r3) (ha:bV X a ta) (hb:bV X b tb):bV X (.BinOp a op b pos) (aJ r3 ta tb):=by
  obtain ⟨r,o1,o2⟩:=o
  exact PE.imp (PE.kf (asD o1 ha hb)) fun _ _ _ h=>atB o2 h
theorem al3 {op:CmpOp} {r3:R3} (o:qC X (compareOp op) r3) (ha:bV X a ta) (hb:bV X b tb) (hm:behindInMarks op b=false):bV X (.Compare a [op] [b] pos) (aJ r3 ta tb):=by
  obtain ⟨r,o1,o2⟩:=o
  exact PE.imp (ahG o1 ha hb hm) fun _ _ _ h=>a7Z o2 h
def bM (t:bL):rZ:=fun ρ G R=>t ρ G fun x G1=>match x with
  | .bl k=>R k G1
  | _=>False
theorem a9L {K:Fg} {t:TE} {t3:bL} (f:∀ σ H Q,upE K t3 σ H Q→t σ H Q) {σ:St} {H:Hp} {Q:Bool→Hp→Prop} (h:upT K (bM t3) σ H Q):akX t σ H Q:=by
  obtain ⟨ρ,G,R,s,g,u,k⟩:=h
  refine f _ _ _ ⟨ρ,G,_,s,g,u,fun v H' d G' t1 r g1 q=>?_⟩
  cases r with
  | bl b=>exact ⟨b,rfl,k b H' G' t1 g1 q⟩
  | _=>exact q.elim
theorem al4 {op:CmpOp} {r3:R3} (o:qC X (compareOp op) r3) (ha:bV X a ta) (hb:bV X b tb) (hm:behindInMarks op b=false):PT3 X (.Compare a [op] [b] pos) (bM (aJ r3 ta tb)):=by
  obtain ⟨r,o1,o2⟩:=o
  exact PT.imp (ahH o1 ha hb hm) fun _ _ _ h=>a9L (fun _ _ _=>a7Z o2) h
theorem atD {e:Expr} {t:bL} (h:bV X e t) (he:∀ whole,isTrue e X.env whole=(do let v ← whole;standAt e.pos;holding [v] (truthy v)):=by intro _;rfl):PT3 X e (bM t) :=
  PT.imp (amE h he) fun _ _ _ h=>a9L (fun _ _ _ q=>q) h
def awQ (r r':R3) (ta tb tc:bL):bL:=fun ρ G R=>ta ρ G fun x G1=>tb ρ G1 fun y G2=>r x y G2 fun z G3=>match z with
  | .bl true=>tc ρ G3 fun w G4=>r' y w G4 R
  | .bl false=>R (.bl false) G3
  | _=>False
variable {sa sb:rZ} {rest:List Expr}
def a5W (t u:rZ):rZ:=fun ρ G R=>t ρ G fun c G1=>if c=true then u ρ G1 R else R false G1
def a80 (t u:rZ):rZ:=fun ρ G R=>t ρ G fun c G1=>if c=true then R true G1 else u ρ G1 R
def a5X (t:rZ):rZ:=fun ρ G R=>t ρ G fun c G1=>R (!c) G1
theorem anM {K:Fg} {σ:St} {H:Hp} {Q:Bool→Hp→Prop} (h:upT K (a5W sa sb) σ H Q):arY (upT K sa) (upT K sb) σ H Q:=by
  obtain ⟨ρ,G,R,s,g,t,k⟩:=h
  refine ⟨ρ,G,_,s,g,t,fun c H1 G1 t1 g1 q=>?_⟩
  cases c with
  | true=>exact ⟨ρ,G1,R,s.mono t1,g1,q,fun b H' G' t2=>k b H' G' (t1.trans t2)⟩
  | false=>exact k false H1 G1 t1 g1 q
theorem atE {K:Fg} {σ:St} {H:Hp} {Q:Bool→Hp→Prop} (h:upT K (a80 sa sb) σ H Q):tOr (upT K sa) (upT K sb) σ H Q:=by
  obtain ⟨ρ,G,R,s,g,t,k⟩:=h
  refine ⟨ρ,G,_,s,g,t,fun c H1 G1 t1 g1 q=>?_⟩
  cases c with
  | false=>exact ⟨ρ,G1,R,s.mono t1,g1,q,fun b H' G' t2=>k b H' G' (t1.trans t2)⟩
  | true=>exact k true H1 G1 t1 g1 q
theorem anN (ha:PT3 X a sa):PW3 X (.BoolOp .And [a] pos) sa:=ah8 ha
theorem atF (ha:PT3 X a sa):PW3 X (.BoolOp .Or [a] pos) sa:=amF ha
theorem atG (ha:PT3 X a sa) (hb:PW3 X (.BoolOp .And (b :: rest) pos) sb):PW3 X (.BoolOp .And (a :: b :: rest) pos) (a5W sa sb):=PW.imp (amG ha hb) fun _ _ _ h=>anM h
theorem ay7 (ha:PT3 X a sa) (hb:PW3 X (.BoolOp .Or (b :: rest) pos) sb):PW3 X (.BoolOp .Or (a :: b :: rest) pos) (a80 sa sb):=PW.imp (as3 ha hb) fun _ _ _ h=>atE h
theorem atH (ha:PT3 X a sa):PT3 X (.UnaryOp .Not a pos) (a5X sa):=PT.imp (amH ha) fun σ H Q h=>by
  obtain ⟨ρ,G,R,s,g,t,k⟩:=h
  exact ⟨ρ,G,_,s,g,t,fun c H1 G1 t1 g1 q=>k (!c) H1 G1 t1 g1 q⟩
def zH (ta tb:bL):bL:=fun ρ G R=>ta ρ G fun x G1=>match x with
  | .bl true=>tb ρ G1 R
  | .bl false=>R (.bl false) G1
  | _=>False
def al5 (ta tb:bL):bL:=fun ρ G R=>ta ρ G fun x G1=>match x with
  | .bl true=>R (.bl true) G1
  | .bl false=>tb ρ G1 R
  | _=>False
theorem al6 {op} (h:bV X a ta):bV X (.BoolOp op [a] pos) ta:=amI h
theorem atJ (ha:bV X a ta) (hb:bV X (.BoolOp .And (b :: rest) pos) tb):bV X (.BoolOp .And (a :: b :: rest) pos) (zH ta tb):=PE.imp (amJ ha hb) fun σ H Q h=>by
  obtain ⟨ρ,G,R,s,g,t,k⟩:=h
  refine ⟨ρ,G,_,s,g,t,fun v H1 x G1 t1 r g1 q=>?_⟩
  cases r with
  | bl c =>
    refine ⟨c,rfl,?_⟩
    cases c with
    | true=>exact ⟨ρ,G1,R,s.mono t1,g1,q,fun b H' d G' t2=>k b H' d G' (t1.trans t2)⟩
    | false=>exact k _ H1 _ G1 t1 (.bl false) g1 q
  | _=>exact q.elim
theorem ay8 (ha:bV X a ta) (hb:bV X (.BoolOp .Or (b :: rest) pos) tb):bV X (.BoolOp .Or (a :: b :: rest) pos) (al5 ta tb):=PE.imp (as5 ha hb) fun σ H Q h=>by
  obtain ⟨ρ,G,R,s,g,t,k⟩:=h
  refine ⟨ρ,G,_,s,g,t,fun v H1 x G1 t1 r g1 q=>?_⟩
  cases r with
  | bl c =>
    refine ⟨c,rfl,?_⟩
    cases c with
    | false=>exact ⟨ρ,G1,R,s.mono t1,g1,q,fun b H' d G' t2=>k b H' d G' (t1.trans t2)⟩
    | true=>exact k _ H1 _ G1 t1 (.bl true) g1 q
  | _=>exact q.elim
def abO (t:rZ) (ta tb:bL):bL:=fun ρ G R=>t ρ G fun c G1=>if c=true then ta ρ G1 R else tb ρ G1 R
theorem ai8 {c:Expr} (hc:PT3 X c sa) (ha:bV X a ta) (hb:bV X b tb):bV X (.IfExp c a b pos) (abO sa ta tb):=PE.imp (acS hc ha hb) fun σ H Q h=>by
  obtain ⟨ρ,G,R,s,g,t,k⟩:=h
  refine ⟨ρ,G,_,s,g,t,fun c H1 G1 t1 g1 q=>?_⟩
  cases c with
  | true=>exact ⟨ρ,G1,R,s.mono t1,g1,q,fun b H' d G' t2=>k b H' d G' (t1.trans t2)⟩
  | false=>exact ⟨ρ,G1,R,s.mono t1,g1,q,fun b H' d G' t2=>k b H' d G' (t1.trans t2)⟩
end
section
variable {X:Cx} {e:Expr} {es:List Expr} {te:bL} {t:lO} {pos:Pos}
def aK:lO:=fun _ G R=>R [] G
def aA (ta:bL) (tr:lO):lO:=fun ρ G R=>ta ρ G fun x G1=>tr ρ G1 fun xs G2=>R (x :: xs) G2
theorem a5Y:PA3 X [] aK:=PA.imp amY fun σ H Q h=>by
  obtain ⟨ρ,G,R,s,g,t,k⟩:=h
  exact k [] H [] G (.refl H) .nil g t
theorem o8 (ha:bV X e te) (hr:PA3 X es t) (hs:starEach (e :: es) X.env=(false,eval e X.env) :: starEach es X.env:=by rfl):PA3 X (e :: es) (aA te t):=PA.imp (ahI ha hr hs) fun σ H Q h=>by
  obtain ⟨ρ,G,R,s,g,t,k⟩:=h
  refine ⟨ρ,G,_,s,g,t,fun v H1 x G1 t1 r g1 q=>?_⟩
  refine ⟨ρ,G1,_,s.mono t1,g1,q,fun vs H2 xs G2 t2 rs g2 q'=>?_⟩
  exact k (v :: vs) H2 (x :: xs) G2 (t1.trans t2) (.cons (r.mono t2) rs) g2 q'
def pK (t:lO):bL:=fun ρ G R=>t ρ G fun xs G1=>xs.length≤sizeLine∧R (.tup xs) G1
def pL (t:lO):bL:=fun ρ G R=>t ρ G fun xs G1=>xs.length≤sizeLine∧∀ p,G1 p=none→R (.ref p) (aL G1 p (.lst xs))
theorem atL {x1} (h:PA3 X es t):bV X (.Tuple es x1 pos) (pK t):=PE.imp (amZ h) fun σ H Q h=>by
  obtain ⟨ρ,G,R,s,g,t,k⟩:=h
  refine ⟨ρ,G,_,s,g,t,fun vs H1 xs G1 t1 r g1 q=>?_⟩
  refine ⟨by rw [← r.length];exact q.1,fun p hp=>?_⟩
  have sn:Same H1 (upd H1 p (.tup vs)):=aW hp
  exact k (.ref p) _ (.tup xs) G1 (t1.trans (.same sn)) (.tup (pF.of aD) (r.mono (.same sn)) (ai5 aD)) (g1.same sn) q.2
theorem atM (h:PA3 X es t):bV X (.List es pos) (pL t):=PE.imp (PE.kf (an0 h)) fun σ H Q h=>by
  obtain ⟨ρ,G,R,s,g,t,k⟩:=h
  refine ⟨ρ,G,_,s,g,t,fun vs H1 xs G1 t1 r g1 q=>?_⟩
  refine ⟨by rw [← r.length];exact q.1,fun p hp kf=>?_⟩
  have sn:Same H1 (upd H1 p (.lst vs)):=aW hp
  exact k (.ref p) _ (.ref p) _ (t1.trans (.same sn)) (.ref p) (g1.put (u := .lst xs) hp ⟨vs,aD,r.mono (.same sn)⟩) (q.2 p (gC g1 hp kf))
end
end L2
namespace L2
open PySem PySem.Spec PyProof.Rows
section
variable {X:Cx} {a b c:Expr} {ta tb tc:bL} {pos:Pos}
def rI3 (C:Int→Int→Prop) (g:Int→Int→Int):R3:=fun x y G R=>match x,y with
  | .int i,.int j=>C i j∧R (.int (g i j)) G
  | _,_=>False
def atO (g:Int→Int→Int):R3:=fun x y G R=>match x,y with
  | .int i,.int j=>R (.int (g i j)) G
  | _,_=>False
def ai9 (g:Int→Int→Bool):R3:=fun x y G R=>match x,y with
  | .int i,.int j=>R (.bl (g i j)) G
  | _,_=>False
theorem a9M {f:Value→Value→Sem Value} {C:Int→Int→Prop} {g:Int→Int→Int} (h:pG X f (rI C fun i j => .int (g i j))):zG X f (rI3 C g):=by
  refine ⟨_,h,fun H x y vx vy G R Q rx ry gh h k=>?_⟩
  cases rx with
  | int i =>
    cases ry with
    | int j=>exact ⟨i,j,rfl,rfl,h.1,fun _=>k _ H _ G (.refl H) (.int _) gh h.2⟩
    | _=>exact False.elim h
  | _=>exact False.elim h
theorem anO {f:Value→Value→Sem Value} {g:Int→Int→Int} (h:pG X f (rI0 fun i j => .int (g i j))):zG X f (atO g):=by
  refine ⟨_,h,fun H x y vx vy G R Q rx ry gh h k=>?_⟩
  cases rx with
  | int i =>
    cases ry with
    | int j=>exact ⟨i,j,rfl,rfl,fun _=>k _ H _ G (.refl H) (.int _) gh h⟩
    | _=>exact False.elim h
  | _=>exact False.elim h
theorem a81 {f:Value→Value→Sem Value} {g:Int→Int→Bool} (h:pG X f (rI0 fun i j => .bl (g i j))):qC X f (ai9 g):=by
  refine ⟨_,h,fun H x y vx vy G R Q rx ry gh h k=>?_⟩
  cases rx with
  | int i =>
    cases ry with
    | int j=>exact ⟨i,j,rfl,rfl,k _ H _ G (.refl H) (.bl _) gh h⟩
    | _=>exact False.elim h
  | _=>exact False.elim h
def a2C:R3:=atO fun i j=>i - j
def qQ:R3:=rI3 ad0 fun i j=>i * j
def cF:R3:=rI3 amQ fun i j=>i / j
def cA:R3:=rI3 (fun _ j=>0 < j) fun i j=>i % j
def al7:R3:=rI3 asH fun i j=>i ^ j.toNat
theorem atP:zG X (binaryOp .Sub) a2C:=anO amS
theorem atQ:zG X (binaryOp .Mult) qQ:=a9M amT
theorem anP:zG X (binaryOp .FloorDiv) cF:=a9M ahE
theorem atR:zG X (binaryOp .Mod) cA:=a9M amU
theorem atU:zG X (binaryOp .Pow) al7:=a9M amV
def adM:R3:=ai9 fun i j=>decide (i < j)
def adN:R3:=ai9 fun i j=>decide (j < i)
def atV:R3:=ai9 fun i j=>decide (j≤i)
theorem ay9:qC X (compareOp .Lt) adM:=a81 asI
theorem ayA:qC X (compareOp .Gt) adN:=a81 asK
theorem ayB:qC X (compareOp .GtE) atV:=a81 asL
def atX:R3:=fun x y G R=>match x,y with
  | .int i,.int j=>R (.bl (decide (i≤j))) G
  | .str i,.str j=>R (.bl (!decide (j.cps.toList < i.cps.toList))) G
  | _,_=>False
theorem abP:pG X (compareOp .LtE) (fun x y H Q=>∃ i j,x = .str i∧y = .str j∧Q (.bl (!decide (j.cps.toList < i.cps.toList))) H):=by
  intro pins s σ H x y v u Q I rx ry h
  obtain ⟨i,j,rfl,rfl,q⟩:=h
  obtain ⟨t,rfl⟩:=rx
  obtain ⟨t',rfl⟩:=ry
  exact PySem.P.le_str ⟨.bl _,H,I,rfl,q⟩
theorem ayC:qC X (compareOp .LtE) atX:=by
  refine ⟨_,asJ.or abP,fun H x y vx vy G R Q rx ry gh h k=>?_⟩
  cases rx with
  | int i =>
    cases ry with
    | int j=>exact .inl ⟨i,j,rfl,rfl,k _ H _ G (.refl H) (.bl _) gh h⟩
    | _=>exact False.elim h
  | str i =>
    cases ry with
    | str j=>exact .inr ⟨i,j,rfl,rfl,k _ H _ G (.refl H) (.bl _) gh h⟩
    | _=>exact False.elim h
  | _=>exact False.elim h
def dI:R3:=fun x y G R=>match x,y with
  | .int i,.int j=>R (.int (i+j)) G
  | .str i,.str j=>i.length+j.length≤sizeLine∧R (.str (i++j)) G
  | .tup xs,.tup ys=>xs.length+ys.length≤sizeLine∧R (.tup (xs++ys)) G
  | .ref l,.ref m=>match G l,G m with
    | some (.lst xs),some (.lst ys)=>xs.length+ys.length≤sizeLine∧∀ p,G p=none→R (.ref p) (aL G p (.lst (xs++ys)))
    | _,_=>False
  | _,_=>False
theorem adO:pG X (binaryOp .Add) (fun x y H Q=>∃ a b ys,x = .ref a∧y = .ref b∧pF X.K H a []∧pF X.K H b ys∧Q (.ref b) H):=by
  intro pins s σ H x y v u Q I rx ry h
  obtain ⟨a,b,ys,rfl,rfl,ha,hb,q⟩:=h
  cases rx
  cases ry
  obtain ⟨its,r1,p1,_⟩:=I.tuple ha
  obtain ⟨its2,r2,p2,_⟩:=I.tuple hb
  cases r1
  obtain ⟨⟨cls,dd,data,sl⟩,ho,hc,n,hd⟩:=id p1
  obtain ⟨⟨cls2,dd2,data2,sl2⟩,ho2,hc2,n2,hd2⟩:=id p2
  simp only at hc hd hc2 hd2
  subst hc hd hc2 hd2
  exact concat_meets ⟨_,ho,rfl⟩ ⟨_,ho2,rfl⟩ noFill_tuple_add seq_tuple_add PySem.F.slot_tuple_add PySem.F.entry_tuple_add (PySem.F.args_tuple_add_2 _ _)
      (tuple_addW0 a b #[] its2.toArray n n2 dd dd2 sl sl2 (by simp)) ⟨ho,ho2,⟨.ref b,H,I,rfl,q⟩⟩
theorem atY:zG X (binaryOp .Add) dI:=by
  refine ⟨_,amR.or (a7N.or (ahR.or (adO.or anE))),fun H x y vx vy G R Q rx ry gh h k=>?_⟩
  cases rx with
  | int i =>
    cases ry with
    | int j=>exact .inl ⟨i,j,rfl,rfl,fun _=>k _ H _ G (.refl H) (.int _) gh h⟩
    | _=>exact False.elim h
  | str i =>
    cases ry with
    | str j=>exact .inr (.inl ⟨i,j,rfl,rfl,h.1,fun _=>k _ H _ G (.refl H) (.str _) gh h.2⟩)
    | _=>exact False.elim h
  | @tup a xs ds ha ra ea =>
    cases ry with
    | @tup b ys es hb rb eb =>
      by_cases hn:ds=[]
      · subst hn
        cases ra
        exact .inr (.inr (.inr (.inl ⟨a,b,ys,rfl,rfl,ha,hb,fun _=>k _ H _ G (.refl H) (.tup hb rb eb) gh h.2⟩)))
      · refine .inr (.inr (.inl ⟨a,b,xs,ys,rfl,rfl,ha,hb,fun z=>hn (ra.uR.mp z),by rw [← ra.length,← rb.length];exact h.1,fun z _=>?_,fun _ p hp _=>?_⟩))
        · subst z
          cases rb
          have h2:=h.2
          rw [List.append_nil] at h2
          exact k _ H _ G (.refl H) (.tup ha ra ea) gh h2
        · have sn:Same H (upd H p (.tup (xs++ys))):=aW hp
          exact k _ _ _ G (.same sn) (.tup (pF.of aD) ((ra.append rb).mono (.same sn)) (ai5 aD)) (gh.same sn) h.2
    | _=>exact False.elim h
  | ref l =>
    cases ry with
    | ref m =>
      have h':(match G l,G m with
        | some (.lst xs),some (.lst ys)=>xs.length+ys.length≤sizeLine∧∀ p,G p=none→R (.ref p) (aL G p (.lst (xs++ys)))
        | _,_=>False):=h
      split at h'
      · rename_i xs ys e1 e2
        obtain ⟨xv,f1,r1⟩:=gh l _ e1
        obtain ⟨yv,f2,r2⟩:=gh m _ e2
        refine .inr (.inr (.inr (.inr ⟨l,m,xv,yv,rfl,rfl,f1,f2,by rw [← r1.length,← r2.length];exact h'.1,fun p hp kf=>?_⟩)))
        have sn:Same H (upd H p (.lst (xv++yv))):=aW hp
        exact k _ _ _ _ (.same sn) (.ref p) (gh.put (u := .lst (xs++ys)) hp ⟨_,aD,(r1.append r2).mono (.same sn)⟩) (h'.2 p (gC gh hp kf))
      · exact h'.elim
    | _=>exact False.elim h
  | _=>exact False.elim h
def anQ:R3:=fun x y G R=>match x,y with
  | .non,.non=>R (.bl true) G
  | _,.non=>R (.bl false) G
  | .bl i,.bl j=>R (.bl (i == j)) G
  | .int _,.bl _=>R (.bl false) G
  | .str _,.bl _=>R (.bl false) G
  | .non,.bl _=>R (.bl false) G
  | .tup _,.bl _=>R (.bl false) G
  | .ref _,.bl _=>R (.bl false) G
  | _,_=>False
def adP:R3:=fun x y G R=>anQ x y G fun d G'=>match d with
  | .bl k=>R (.bl (!k)) G'
  | _=>False
theorem isV (x:V) (v:Value) (k:Bool) (r:RelV x v):(v == .bool k)=decide (x = .bl k):=by
  cases x with
  | non=>cases r;rfl
  | bl b =>
    cases r
    cases b <;> cases k <;> rfl
  | int _=>obtain ⟨t,rfl⟩:=r;rfl
  | str _=>obtain ⟨t,rfl⟩:=r;rfl
  | byt _=>obtain ⟨t,rfl⟩:=r;rfl
  | flt _=>obtain ⟨t,rfl⟩:=r;rfl
  | ref _=>cases r;rfl
  | ty _=>cases r;rfl
theorem a2D (x:V) (v:Value) (k:Bool) (r:RelV x v):plainIs v (.bool k)=true:=by
  cases x with
  | non=>cases r;rfl
  | bl b=>cases r;rfl
  | int _=>obtain ⟨t,rfl⟩:=r;rfl
  | str _=>obtain ⟨t,rfl⟩:=r;rfl
  | byt _=>obtain ⟨t,rfl⟩:=r;rfl
  | flt _=>obtain ⟨t,rfl⟩:=r;rfl
  | ref _=>cases r;rfl
  | ty _=>cases r;rfl
theorem aiA:pG X (compareOp .Is) (fun x y H Q=>∃ k,y = .bl k∧Q (.bl (decide (x = .bl k))) H):=by
  intro pins s σ H x y v u Q I rx ry h
  obtain ⟨k,rfl,q⟩:=h
  cases ry
  exact wpAny_is_plain (a2D x v k rx) ⟨.bl _,H,I,by rw [isV x v k rx];rfl,q⟩
theorem abQ:pG X (compareOp .IsNot) (fun x y H Q=>∃ k,y = .bl k∧Q (.bl (!decide (x = .bl k))) H):=by
  intro pins s σ H x y v u Q I rx ry h
  obtain ⟨k,rfl,q⟩:=h
  cases ry
  exact wpAny_isNot_plain (a2D x v k rx) ⟨.bl _,H,I,by rw [isV x v k rx];rfl,q⟩
theorem ayD:qC X (compareOp .Is) anQ:=by
  refine ⟨_,amX.or aiA,fun H x y vx vy G R Q rx ry gh h k=>?_⟩
  cases ry with
  | non =>
    refine .inl ⟨rfl,?_⟩
    cases rx with
    | non=>exact k _ H _ G (.refl H) (.bl _) gh h
    | _=>exact k _ H _ G (.refl H) (.bl _) gh h
  | bl j =>
    refine .inr ⟨j,rfl,?_⟩
    cases rx with
    | bl i =>
      have e:decide (V.bl i=V.bl j)=(i == j):=by cases i <;> cases j <;> rfl
      rw [e]
      exact k _ H _ G (.refl H) (.bl _) gh h
    | ty n=>exact False.elim h
    | _=>exact k _ H _ G (.refl H) (.bl _) gh h
  | _=>cases rx <;> exact False.elim h
theorem anR:qC X (compareOp .IsNot) adP:=by
  refine ⟨_,ahF.or abQ,fun H x y vx vy G R Q rx ry gh h k=>?_⟩
  cases ry with
  | non =>
    refine .inl ⟨rfl,?_⟩
    cases rx with
    | non=>exact k _ H _ G (.refl H) (.bl _) gh h
    | _=>exact k _ H _ G (.refl H) (.bl _) gh h
  | bl j =>
    refine .inr ⟨j,rfl,?_⟩
    cases rx with
    | bl i =>
      have e:decide (V.bl i=V.bl j)=(i == j):=by cases i <;> cases j <;> rfl
      rw [e]
      exact k _ H _ G (.refl H) (.bl _) gh h
    | ty n=>exact False.elim h
    | _=>exact k _ H _ G (.refl H) (.bl _) gh h
  | _=>cases rx <;> exact False.elim h
def aZ (G:Gp) (a:Addr):Option (List D):=match G a with
  | some (.lst ds)=>some ds
  | some (.rol ds)=>some ds
  | _=>none
theorem bR {K:Fg} {H:Hp} {G:Gp} (g:HR K H G) {a:Addr} {ds:List D} (e:aZ G a=some ds):∃ xs,tE K H a xs∧bF K H ds xs:=by
  unfold aZ at e
  split at e
  · rename_i ds' q
    cases e
    obtain ⟨xs,h1,h2⟩:=g a _ q
    exact ⟨xs,tE.of h1,h2⟩
  · rename_i ds' q
    cases e
    exact g a _ q
  · cases e
def bN:R3:=fun x y G R=>match x,y with
  | .tup xs,.int i=>match uK xs i with
    | some d=>R d G
    | none=>False
  | .str z,.int i=>z.length≤sizeLine∧match uK z.cps.toList i with
    | some c=>R (.str ⟨#[c]⟩) G
    | none=>False
  | .ref p,.int i=>match aZ G p with
    | some xs=>(match uK xs i with
      | some d=>R d G
      | none=>False)
    | none=>False
  | _,_=>False
theorem adQ {K:Fg} {H:Hp} {ds:List D} {xs:List V} (r:bF K H ds xs) {i:Int} {d:D} (e:uK ds i=some d):∃ v,uK xs i=some v∧RD K H d v:=by
  unfold uK at e ⊢
  rw [← r.length]
  cases q:ixN ds.length i with
  | none=>rw [q] at e;cases e
  | some j =>
    rw [q] at e
    exact r.get e
theorem ayE (ha:bV X a ta) (hb:bV X b tb) (hs:a3N b):bV X (.Subscript a b pos) (aJ bN ta tb):=by
  refine PE.imp (asT anD ha hb hs) fun _ _ _ h=>a7Z ?_ h
  intro H x y vx vy G R Q rx ry gh h k
  cases rx with
  | @tup p xs ds hp r =>
    cases ry with
    | int i =>
      have h':(match uK ds i with
        | some d=>R d G
        | none=>False):=h
      split at h'
      · rename_i d e
        obtain ⟨v,e1,e2⟩:=adQ r e
        exact .inr (.inl ⟨p,xs,i,v,rfl,rfl,hp,e1,k v H d G (.refl H) e2 gh h'⟩)
      · exact h'.elim
    | _=>exact False.elim h
  | str z =>
    cases ry with
    | int i =>
      have h':z.length≤sizeLine∧(match uK z.cps.toList i with
        | some c=>R (.str ⟨#[c]⟩) G
        | none=>False):=h
      obtain ⟨hz,h'⟩:=h'
      split at h'
      · rename_i d e
        exact .inr (.inr ⟨z,i,d,rfl,rfl,hz,e,k _ H _ G (.refl H) (.str _) gh h'⟩)
      · exact h'.elim
    | _=>exact False.elim h
  | ref p =>
    cases ry with
    | int i =>
      have h':(match aZ G p with
        | some xs=>(match uK xs i with
          | some d=>R d G
          | none=>False)
        | none=>False):=h
      split at h'
      · rename_i ds e
        obtain ⟨xs,hp,r⟩:=bR gh e
        split at h'
        · rename_i d e'
          obtain ⟨v,e1,e2⟩:=adQ r e'
          exact .inl ⟨p,xs,i,v,rfl,rfl,hp,e1,k v H d G (.refl H) e2 gh h'⟩
        · exact h'.elim
      · exact h'.elim
    | _=>exact False.elim h
  | _=>exact False.elim h
abbrev TO3:=aQ→Gp→(Option Int→Gp→Prop)→Prop
def upO (K:Fg) (t:TO3):TO:=fun σ H Q=>∃ ρ G R,SR K H ρ σ∧HR K H G∧t ρ G R∧∀ i H' G',Ts H H'→HR K H' G'→R i G'→Q i H'
abbrev PO3 (X:Cx) (e:Option Expr) (t:TO3):Prop:=PO X e (upO X.K t)
theorem PO.imp {e:Option Expr} {t t':TO} (h:PO X e t) (k:∀ σ H Q,t' σ H Q→t σ H Q):PO X e t':=fun pins s σ H Q I q=>h pins s σ H Q I (k _ _ _ q)
def nA:TO3:=fun _ G R=>R none G
def wI (t:bL):TO3:=fun ρ G R=>t ρ G fun x G1=>match x with
  | .int i=>R (some i) G1
  | _=>False
theorem anS:PO3 X none nA:=PO.imp ahP fun σ H Q h=>by
  obtain ⟨ρ,G,R,s,g,t,k⟩:=h
  exact k none H G (.refl H) g t
theorem anT {e:Expr} {te:bL} (h:bV X e te):PO3 X (some e) (wI te):=PO.imp (ahQ h) fun σ H Q h=>by
  obtain ⟨ρ,G,R,s,g,t,k⟩:=h
  refine ⟨ρ,G,_,s,g,t,fun v H1 x G1 t1 r g1 q=>?_⟩
  cases r with
  | int i=>exact ⟨i,rfl,k _ H1 G1 t1 g1 q⟩
  | _=>exact False.elim q
def cutD {α:Type} (xs:List α) (lo hi:Option Int):List α:=(xs.drop (HT.fZ xs.length 0 lo)).take (HT.fZ xs.length xs.length hi - HT.fZ xs.length 0 lo)
end
end L2
namespace L2
open PySem PySem.Spec PyProof.Rows
section
variable {X:Cx} {st:Stmt} {rest:List Stmt} {t u:bK} {e:Expr} {te:bL} {pos:Pos}
def cU:bK:=fun F ρ G=>F.nx ρ G
def aU (t u:bK):bK:=fun F ρ G=>t { F with nx:=u F } ρ G
theorem au0:uX X [] cU:=xQ.imp ah9 fun F σ H h=>by
  obtain ⟨ρ,G,E,s,g,q,d⟩:=h
  exact d.nx ρ G σ H s g q
theorem anU {K:Fg} {F:Ends} {σ:St} {H:Hp} (h:upS K (aU t u) F σ H):amK (upS K t) (upS K u) F σ H:=by
  obtain ⟨ρ,G,E,s,g,q,d⟩:=h
  exact ⟨ρ,G,_,s,g,q,⟨fun ρ' G' σ' H' s1 g1 h=>⟨ρ',G',E,s1,g1,h,d⟩,d.rt,d.bk,d.ct⟩⟩
theorem anV (h1:PS3 X st t) (h2:uX X rest u):uX X (st :: rest) (aU t u):=xQ.imp (acU h1 h2) fun _ _ _ h=>anU h
theorem au1 (h1:PS3 X st t):uX X [st] t:=a3H h1
theorem anW:PS3 X (.Pass pos) cU:=PS.imp ahA fun F σ H h=>by
  obtain ⟨ρ,G,E,s,g,q,d⟩:=h
  exact d.nx ρ G σ H s g q
def qR (te:bL):bK:=fun F ρ G=>te ρ G fun _ G1=>F.nx ρ G1
theorem anY (he:bV X e te) (hs:swapsWith e none pos.line X.env=pure false:=by rfl):PS3 X (.Expr e pos) (qR te):=PS.imp (ahB he hs) fun F σ H h=>by
  obtain ⟨ρ,G,E,s,g,q,d⟩:=h
  exact ⟨ρ,G,_,s,g,q,fun v H' x G' t1 r g1 h=>d.nx ρ G' σ H' (s.mono t1) g1 h⟩
def gA (te:bL):bK:=fun F ρ G=>te ρ G F.rt
theorem au2 (he:bV X e te):PS3 X (.Return (some e) pos) (gA te):=PS.imp (acV he) fun F σ H h=>by
  obtain ⟨ρ,G,E,s,g,q,d⟩:=h
  exact ⟨ρ,G,_,s,g,q,fun v H' x G' t1 r g1 h=>d.rt x G' v H' r g1 h⟩
def jR (c:rZ) (t u:bK):bK:=fun F ρ G=>c ρ G fun b G1=>if b=true then t F ρ G1 else u F ρ G1
theorem ayF {c:Expr} {a b:List Stmt} {tc:rZ} (hc:PT3 X c tc) (ha:uX X a t) (hb:uX X b u):PS3 X (.If c a b pos) (jR tc t u):=PS.imp (as7 hc ha hb) fun F σ H h=>by
  obtain ⟨ρ,G,E,s,g,q,d⟩:=h
  refine ⟨ρ,G,_,s,g,q,fun b H' G' t1 g1 h=>?_⟩
  cases b with
  | true=>exact ⟨ρ,G',E,s.mono t1,g1,h,d⟩
  | false=>exact ⟨ρ,G',E,s.mono t1,g1,h,d⟩
def bB (i:Nat) (te:bL):bK:=fun F ρ G=>te ρ G fun x G1=>F.nx (wH ρ i x) G1
theorem al9 {i:Nat} {x:Str} {pos':Pos} (hN:X.N.Nodup) (hi:X.N[i]?=some x) (hx:Loc X.env.scope x) (he:bV X e te) (hs:swapsWith e (some (.Name x pos')) pos.line X.env=pure false:=by rfl) (hf:X.fn x=true∨X.env.scope.names.lookup x=some .local:=by first | exact .inl rfl | exact .inr rfl | assumption) :
    PS3 X (.Assign [.Name x pos'] e pos) (bB i te):=PS.imp (amM hN hi hx he hs hf) fun F σ H h=>by
  obtain ⟨ρ,G,E,s,g,q,d⟩:=h
  exact ⟨ρ,G,_,s,g,q,fun v H' x G' t1 r g1 h=>d.nx _ G' _ H' ((s.mono t1).set r i) g1 h⟩
end
section
variable {X:Cx} {body:List Stmt} {tb:bK} {e:Expr} {te:bL} {pos:Pos}
theorem adR {K:Fg} {J:It} {g:TG} {tb:TS} {F:Ends} {σ:St} {H:Hp} {n:Nat} (Pv:Nat→St→Hp→Prop) (h0:Pv 0 σ H)
    (stop:∀ σ H,Pv n σ H→J.stop n H) (go:∀ i σ H,i < n→Pv i σ H→J.go i H)
    (hs:∀ i x σ H H',i < n→Pv i σ H→J.yld i H x H'→g x σ H' fun σ2 H2=>tb { F with nx:=Pv (i+1),ct:=Pv (i+1),bk:=F.nx } σ2 H2) (hd:∀ σ H,Pv n σ H→F.nx σ H) :
    ∃ W:Nat→Nat→St→Hp→Prop,(∃ m,W 0 m σ H)∧∀ i m σ H,W i m σ H →
      (J.stop i H∧F.nx σ H)∨(J.go i H∧∃ N:St→Hp→Prop,(∀ σ' H',N σ' H'→∃ m',m' < m∧W (i+1) m' σ' H')∧∀ x H',J.yld i H x H'→g x σ H' fun σ2 H2=>tb { F with nx:=N,ct:=N,bk:=F.nx } σ2 H2):=by
  refine ⟨fun i m σ H=>m=n - i∧i≤n∧Pv i σ H,⟨n,by simp,Nat.zero_le _,h0⟩,?_⟩
  rintro i m σ H ⟨rfl,hi,p⟩
  by_cases hlt:i < n
  · exact .inr ⟨go i σ H hlt p,Pv (i+1),fun σ' H' p'=>⟨n - (i+1),by omega,rfl,hlt,p'⟩,fun x H' y=>hs i x σ H H' hlt p y⟩
  · have e:i=n:=by omega
    subst e
    exact .inl ⟨stop σ H p,hd σ H p⟩
end
abbrev aY:=Addr→Gp→Prop
abbrev jT:=List D→Gp→dG→aY→Prop
def UpX (K:Fg) (EX:aY) (E:XK):Prop:=∀ C H' G',HR K H' G'→EX C G'→E (.ref C) none H'
def cO (K:Fg) (sp:jT):Sp:=fun vs H Q E=>∃ ds G R EX,bF K H ds vs∧HR K H G∧sp ds G R EX∧(∀ v H' d G',RD K H' d v→HR K H' G'→R d G'→Q v H')∧UpX K EX E
section
variable {X:Cx} {CX:xX} {k:Nat} {f C:Addr} {fd:FuncData} {ps:List Str} {sp:jT} {E:XK} {EX:aY} {x:Str} {p pos:Pos} {e:Expr} {es:List Expr} {t:lO}
def aiB (n m:Nat) (tb:aY→bK):jT:=fun ds G R EX=>ds.length=m∧tb EX ⟨fun _ G'=>R .non G',R,fun _ _=>False,fun _ _=>False⟩ (cT n ds) G
end
end L2
namespace L2
open PySem PySem.Spec PyProof.Rows
def iJ (P:Program) (w:World):xX:=fun outer H s E e s'=>∃ (x C:Addr) (H':Hp) (B:Heap),e = .ref x∧Fly B outer x (.ref C) s'.heap∧mW P w H' B ∧
  (∀ b o,s.heap.get? b=some o→H b=none→b ∉ frs outer→B.get? b=some o)∧(∀ b o,s.heap.get? b=some o→b ∉ frs outer→∃ o',B.get? b=some o') ∧
  Un (frs outer) [] H H' s.heap s'.heap∧s'.os=s.os∧AllBare s'.gens∧E (.ref C) none H'
theorem a9N {l:List Env} {b:Addr} (h:b∈frs l):∃ env∈l,env.frame=some b:=List.mem_filterMap.mp h
theorem a3T {l:List Env} {b:Addr} {env:Env} (h:env∈l) (e:env.frame=some b):b∈frs l:=List.mem_filterMap.mpr ⟨env,h,e⟩
section
variable {qt:Bool} {P:Program} {w:World} {K:Fg} {mg:Str→Option Value} {base:Heap} {N:List Str} {qual:Str} {scope:Scope} {f:Addr} {cd:Value} {A:Around} {outer:List Env} {s₀:Shared} {H₀:Hp} {E:XK}
abbrev uY (qt:Bool) (P:Program) (w:World) (K:Fg) (mg:Str→Option Value) (base:Heap) (N:List Str) (qual:Str) (scope:Scope) (f:Addr) (cd:Value) (A:Around) (outer:List Env) (s₀:Shared) (H₀:Hp) (E:XK):Cx:=eE qt (iJ P w) P w K mg base N qual scope f cd A outer s₀ H₀ E
theorem eV {X:Cx} {pins:List (Addr×Obj)} {σ:St} {H:Hp} {s:Shared} (I:Inv X pins σ H s) (hst:X.stack=X.env :: X.outer) (hf:X.env.frame=some X.env.locals) {b:Addr} {o:Obj} (e:X.s₀.heap.get? b=some o) (n:b ∉ frs X.outer):b ∉ frs X.stack:=fun hb=>by
  obtain ⟨env,he,hfr⟩:=a9N hb
  rw [hst] at he
  rcases List.mem_cons.mp he with rfl | he
  · have z:X.env.locals=b:=Option.some.inj (hf.symm.trans hfr)
    have h1:=I.ok.above
    have h2:=Heap.lt_size e
    rw [z] at h1
    exact absurd (Nat.lt_of_lt_of_le h2 h1) (Nat.lt_irrefl _)
  · exact n (a3T he hfr)
theorem aiC {pins:List (Addr×Obj)} {σ:St} {H:Hp} {s:Shared} {C e:Addr} {us:List Value} {h':Heap} (I:Inv (uY qt P w K mg base N qual scope f cd A outer s₀ H₀ E) pins σ H s) (hm:Heap.MadeExcOf s.heap h' e (.ref C) us) (q:E (.ref C) none H) :
    (uY qt P w K mg base N qual scope f cd A outer s₀ H₀ E).xe (.ref e) { s with heap:=h' }:=by
  have hst:(uY qt P w K mg base N qual scope f cd A outer s₀ H₀ E).stack=(uY qt P w K mg base N qual scope f cd A outer s₀ H₀ E).env :: outer:=rfl
  have hin:∀ env∈(uY qt P w K mg base N qual scope f cd A outer s₀ H₀ E).stack,∀ b,env.frame=some b→b∈frs (uY qt P w K mg base N qual scope f cd A outer s₀ H₀ E).stack:=fun env he b hb=>a3T he hb
  have hB:∀ b o,(PySem.W.hideAll s.heap (frs (uY qt P w K mg base N qual scope f cd A outer s₀ H₀ E).stack)).get? b=some o→s.heap.get? b=some o:=fun b o e=>PySem.W.of_hideAll _ e
  have toB:∀ b o,s.heap.get? b=some o→b ∉ frs (uY qt P w K mg base N qual scope f cd A outer s₀ H₀ E).stack→(PySem.W.hideAll s.heap (frs (uY qt P w K mg base N qual scope f cd A outer s₀ H₀ E).stack)).get? b=some o:=fun b o e n=>PySem.W.hideAll_get _ e n
  have fr:=PySem.W.funFrames_hide I.stack hin
  refine a7H (B:=PySem.W.hideAll s.heap (frs (uY qt P w K mg base N qual scope f cd A outer s₀ H₀ E).stack)) (h0:=s.heap) I.ok.frames rfl hB fr hm fun h2 k1 k4=>?_
  have up:∀ b o,s.heap.get? b=some o→(∀ vs,o.data ≠ .fields vs)→∃ sl,h2.get? b=some { o with slots:=sl }:=fun b o e nd=>k4 b o (hm.keeps b o e) nd
  have hfd:∀ b∈frs outer,∀ o,s.heap.get? b=some o→∀ vs,o.data ≠ .fields vs:=fun b hb o e=>by
    obtain ⟨_,o',ho',hd⟩:=I.mY.mem hb
    rw [e] at ho';cases ho'
    exact hd
  refine ⟨e,C,H,_,rfl,k1,?_,fun b o eb nb hb=>?_,fun b o eb hb=>?_,⟨fun b o eb nb hb _=>?_,fun b o eb nb hb _=>?_,fun b o eb nb hx=>I.base.free b o eb nb hx,fun b o eb hx=>?_,I.base.tups,I.base.cQ,I.base.m7⟩,I.os,I.bare,q⟩
  · intro b o hb
    refine (I.hok b o hb).stay (fun c u hc eu=>toB c u eu fun hz=>?_) (fun _ z=>z) fun _ _ z=>z
    have n:=I.a3G c hz
    rcases hc with rfl | hc
    · rw [hb] at n;cases n
    · rw [hc] at n;cases n
  · exact toB b o (I.base.keep b o eb nb hb (by simp [eE])) (eV I hst rfl eb hb)
  · obtain ⟨o',e'⟩:=I.base.there b o eb (by simp [eE])
    exact ⟨o',toB b o' e' (eV I hst rfl eb hb)⟩
  · exact k1.stays b o (toB b o (I.base.keep b o eb nb hb (by simp [eE])) (eV I hst rfl eb hb))
  · obtain ⟨sl,e1⟩:=I.base.slot b o eb nb hb (by simp [eE])
    obtain ⟨sl2,e2⟩:=up b _ e1 (hfd b hb _ e1)
    exact ⟨sl2,e2⟩
  · obtain ⟨o',e'⟩:=I.base.there b o eb (by simp [eE])
    by_cases hb:b∈frs outer
    · obtain ⟨sl,e1⟩:=up b o' e' (hfd b hb o' e')
      exact ⟨_,e1⟩
    · exact ⟨o',k1.stays b o' (toB b o' e' (eV I hst rfl eb hb))⟩
theorem aiD {E':XK} (hE:∀ C H',E' C none H'→E C none H') {pins:List (Addr×Obj)} {σ:St} {H:Hp} {s s':Shared} {e:Value} (I:Inv (uY qt P w K mg base N qual scope f cd A outer s₀ H₀ E) pins σ H s)
    (c:iJ P w (uY qt P w K mg base N qual scope f cd A outer s₀ H₀ E).stack H s E' e s'):(uY qt P w K mg base N qual scope f cd A outer s₀ H₀ E).xe e s':=by
  obtain ⟨x,C,H',B,rfl,fl,hok,cov,au3,un,os,bare,q⟩:=c
  have hst:(uY qt P w K mg base N qual scope f cd A outer s₀ H₀ E).stack=(uY qt P w K mg base N qual scope f cd A outer s₀ H₀ E).env :: outer:=rfl
  refine acN (B:=B) I.ok.frames rfl fl fun h2 k1 k4=>?_
  have hfs:∀ b∈frs outer,b∈frs (uY qt P w K mg base N qual scope f cd A outer s₀ H₀ E).stack:=fun b hb=>by
    obtain ⟨env,he,hf⟩:=a9N hb
    exact a3T (List.mem_cons_of_mem _ he) hf
  have hfd:∀ b∈frs outer,∀ o,s'.heap.get? b=some o→∀ vs,o.data ≠ .fields vs:=fun b hb o e=>by
    obtain ⟨_,o',ho',hd⟩:=fl.ax8.mem (hfs b hb)
    rw [e] at ho';cases ho'
    exact hd
  refine ⟨x,C,H',B,rfl,k1,hok,fun b o eb nb hb=>?_,fun b o eb hb=>?_,⟨fun b o eb nb hb _=>?_,fun b o eb nb hb _=>?_,fun b o eb nb hx=>?_,fun b o eb hx=>?_,fun b xs z=>un.tups b xs (I.base.tups b xs z),fun b o u z=>un.cQ b o u (I.base.cQ b o u z),fun b ps z=>?_⟩,os.trans I.os,bare,hE _ _ q⟩
  · exact cov b o (I.base.keep b o eb nb hb (by simp [eE])) (I.base.free b o eb nb (by simp [eE])) (eV I hst rfl eb hb)
  · obtain ⟨o',e'⟩:=I.base.there b o eb (by simp [eE])
    exact au3 b o' e' (eV I hst rfl eb hb)
  · exact k1.stays b o (cov b o (I.base.keep b o eb nb hb (by simp [eE])) (I.base.free b o eb nb (by simp [eE])) (eV I hst rfl eb hb))
  · obtain ⟨sl,e1⟩:=I.base.slot b o eb nb hb (by simp [eE])
    obtain ⟨sl2,e2⟩:=un.slot b _ e1 (I.base.free b o eb nb (by simp [eE])) (hfs b hb) (by simp)
    obtain ⟨sl3,e3⟩:=k4 b _ e2 (hfd b hb _ e2)
    exact ⟨sl3,e3⟩
  · obtain ⟨o',e'⟩:=I.base.there b o eb (by simp [eE])
    exact un.free b o' e' (I.base.free b o eb nb (by simp [eE])) (by simp)
  · obtain ⟨o',e'⟩:=I.base.there b o eb (by simp [eE])
    by_cases hb:b∈frs outer
    · obtain ⟨o2,e2⟩:=un.there b o' e' (by simp)
      obtain ⟨sl,e3⟩:=k4 b o2 e2 (hfd b hb o2 e2)
      exact ⟨_,e3⟩
    · obtain ⟨o2,e2⟩:=au3 b o' e' (eV I hst rfl eb hb)
      exact ⟨o2,k1.stays b o2 e2⟩
  · obtain ⟨m1,e1⟩:=I.base.m7 b ps z
    obtain ⟨m2,e2⟩:=un.m7 b _ e1
    exact ⟨m1++m2,by rw [e2,Array.append_assoc]⟩
end
def zJ (K:Fg) (EX:aY):XK:=fun C _ H'=>∃ c G',C = .ref c∧HR K H' G'∧EX c G'
structure Cat (X:Cx) (EX:aQ→aY):Prop where
  a9O:∀ pins σ H s ρ e s',Inv X pins σ H s→SR X.K H ρ σ→iJ X.prog X.w X.stack H s (zJ X.K (EX ρ)) e s'→X.xe e s'
structure Thr (X:Cx) (EX:aQ→aY):Prop where
  made:∀ pins σ H s ρ C e us h',Inv X pins σ H s→SR X.K H ρ σ→Heap.MadeExcOf s.heap h' e (.ref C) us→zJ X.K (EX ρ) (.ref C) none H→X.xe (.ref e) { s with heap:=h' }
section
variable {qt:Bool} {P:Program} {w:World} {K:Fg} {mg:Str→Option Value} {base:Heap} {N:List Str} {qual:Str} {scope:Scope} {f:Addr} {cd:Value} {A:Around} {outer:List Env} {s₀:Shared} {H₀:Hp} {E:XK} {EX:aY}
theorem a5Z (h:UpX K EX E) {C:Value} {H':Hp} (q:zJ K EX C none H'):E C none H':=by
  obtain ⟨c,G',rfl,g,q⟩:=q
  exact h c H' G' g q
theorem anZ (h:UpX K EX E):Cat (uY qt P w K mg base N qual scope f cd A outer s₀ H₀ E) (fun _=>EX) :=
  ⟨fun pins σ H s ρ e s' I _ c=>aiD (E':=zJ K EX) (fun C H' q=>a5Z h q) I c⟩
theorem ao0 (h:UpX K EX E):Thr (uY qt P w K mg base N qual scope f cd A outer s₀ H₀ E) (fun _=>EX) :=
  ⟨fun pins σ H s ρ C e us h' I _ hm q=>aiC I hm (a5Z h q)⟩
theorem own1:PassesOwn (model P w) (uY qt P w K mg base N qual scope f cd A outer s₀ H₀ E).A (uY qt P w K mg base N qual scope f cd A outer s₀ H₀ E).env (uY qt P w K mg base N qual scope f cd A outer s₀ H₀ E).xe:=PassesOwn.leaving
end
section
variable {X:Cx} {k:Nat} {f C:Addr} {fd:FuncData} {ps:List Str} {sp:jT} {EX:aQ→aY} {x:Str} {p pos:Pos} {e:Expr} {es:List Expr} {t:lO}
def bZ (sp:jT) (EX:aQ→aY) (t:lO):bL:=fun ρ G R=>t ρ G fun ds G1=>sp ds G1 R (EX ρ)
theorem a9P {pins:List (Addr×Obj)} {σ:St} {H:Hp} {s:Shared} {Q Q':VK} {us:List Value} {vs:List V} {E:XK} (F:bY qt X.prog X.w X.K X.mg X.base (iJ X.prog X.w) k f fd ps (cO X.K sp)) (hr:bQ qt k X.A) (hb:Binds X.K fd ps [])
    (hx:∀ e s',iJ X.prog X.w X.stack H s E e s'→X.xe e s')
    (I:Inv X pins σ H s) (r:Vals vs us) (h:cO X.K sp vs H Q E) (hQ:∀ v H',Ts H H'→Q v H'→Q' v H'):wpAny (model X.prog X.w) X.A (call (.ref f) us) (EP X pins σ Q') X.xe s:=by
  have hl:(us++[]).length=ps.length:=by rw [List.append_nil,← r.length];exact F.len _ _ _ _ h
  refine wpAny_call (codeAny_mono (F.run X.A X.stack s H ⟨us,[]⟩ (us++[]) vs Q E hr I.env0 (hb s us I.yP hl) (by rw [List.append_nil];exact r) h) fun r s' hq=>?_)
  cases r with
  | error e=>exact hx e s' hq
  | ok fl =>
    cases fl with
    | ret u =>
      obtain ⟨v,H',os,bare,un,hok,r,q⟩:=hq
      exact ⟨v,H',I.call' (ch:=[]) os un hok bare (fun b z=>absurd z (by simp)),r,hQ v H' ⟨un.tups,un.cQ⟩ q⟩
    | next=>exact False.elim hq
    | brk=>exact False.elim hq
    | cont=>exact False.elim hq
theorem aiE (F:bY qt X.prog X.w X.K X.mg X.base (iJ X.prog X.w) k f fd ps (cO X.K sp)) (hr:bQ qt k X.A) (hg:Gl X x) (hm:X.mg x=some (.ref f)) (hk:PySem.W.keepIn X.K (.ref f)=true) (hb:Binds X.K fd ps []) (hx:Cat X EX)
    (ha:PA3 X (e :: es) t) (hdb:(x == ("__debug__" : Str))=false:=by decide) (he:starEach (e :: es) X.env=(false,eval e X.env) :: starEach es X.env:=by rfl) (hpl:(backTo pos (starEach es X.env)).any (·.1)=false:=by rfl) :
    bV X (.Call (.Name x p) (e :: es) [] pos) (bZ sp EX t):=by
  intro pins s σ H Q I h _tk
  obtain ⟨ρ,G,R,sr,g,q,kk⟩:=h
  refine wpAny_Call_Name_kw (iZ I hg hm ?_ hdb)
  refine PySem.W.callWith_K (h₀:=X.base) I.ok.mod.kin hk (cD (ha pos pins s σ H (fun vs H1=>Ts H H1∧∃ ds G1,bF X.K H1 ds vs∧HR X.K H1 G1∧sp ds G1 R (EX ρ)) I ⟨ρ,G,_,sr,g,q,fun vs H1 ds G1 t1 r1 g1 q1=>⟨t1,ds,G1,r1,g1,q1⟩⟩) fun us s1 ⟨vs,H1,I1,r,t1,ds,G1,r1,g1,q1⟩=>⟨I1.yP,?_⟩) he hpl
  refine a9P (E:=zJ X.K (EX ρ)) F hr hb (fun e s' c=>hx.a9O pins σ H1 s1 ρ e s' I1 (sr.mono t1) c) I1 r (Q:=fun v H'=>∃ d G',RD X.K H' d v∧HR X.K H' G'∧R d G') ⟨ds,G1,R,EX ρ,r1,g1,q1,fun v H' d G' r2 g2 q2=>⟨d,G',r2,g2,q2⟩,fun C H' G' g' q'=>⟨C,G',rfl,g',q'⟩⟩ fun v H' t2 ⟨d,G',r2,g2,q2⟩=>kk v H' d G' (t1.trans t2) r2 g2 q2
theorem ao1 {qt:Bool} {P:Program} {w:World} {K:Fg} {mg:Str→Option Value} {base:Heap} {x qual:Str} {st:Stmt} {f:Addr} {fd:FuncData} {N ps:List Str} {k:Nat} {tb:aY→bK} (F:uU K x qual st f fd) (S:bD N ps (aC st))
    (hbody:∀ (cdv:Value) (A:Around) (outer:List Env) (s:Shared) (H:Hp) (E:XK) (EX:aY),bQ qt k (A.deeper (envOfC qual (aC st) s.heap.objs.size f cdv))→UpX K EX E →
      uX (uY qt P w K mg base N qual (aC st) f cdv A outer s H E) (bI st) (tb EX)):bY qt P w K mg base (iJ P w) (k+1) f fd ps (cO K (aiB N.length ps.length tb)):=by
  obtain ⟨oc,od,dV,kV,doc,pm,an,cdv,ct,osl,rfl,lk,hcd⟩:=F.ex
  have hpl:ps.length≤N.length:=by have:=congrArg List.length S.pre;rw [List.length_take] at this;omega
  refine ad3 lk hcd S (fun vs H Q E h=>?_) fun A outer s H vs Q E hr hsp=>?_
  · obtain ⟨ds,G,R,EX,r,g,⟨hl,q⟩,_⟩:=h
    rw [← r.length,hl]
  · obtain ⟨ds,G,R,EX,r,g,⟨hl,q⟩,kk,hE⟩:=hsp
    refine ⟨_,hbody cdv A outer s H E EX hr hE,cT N.length ds,G,_,?_,g,q,⟨fun ρ G' σ' H' s1 g1 q1=>kk .non H' .non G' .non g1 q1,fun d G' v H' r1 g1 q1=>kk v H' d G' r1 g1 q1,fun _ _ _ _ _ _ z=>z.elim,fun _ _ _ _ _ _ z=>z.elim⟩⟩
    unfold cT start
    rw [r.length]
    exact SR.entry r
end
section
variable {X:Cx} {C:Addr} {bmB bmN:List Value} {B Bn newId nid initId inN:String} {EX:aQ→aY} {x:Str} {np cpos pos:Pos} {e:Expr} {es:List Expr} {t:lO}
theorem xY {K:Fg} {h:Heap} (XK:K.In h) (q:PySem.W.excIn K C bmB newId=true):∃ bm N nm q bs hdct sn sub ab col dd k0 k1 k2 k3 k5 mN,h.get? C=some (excClassObj nm q C N bs bm hdct sn sub ab col dd k0 k1 k2 k3 k5 newId)∧h.Ns N mN∧mN "__init__" = none∧OwnTail h bmB bm:=by
  unfold PySem.W.excIn at q
  split at q
  · rename_i dd cd sl ho
    split at q
    · rename_i C' bm k0 k1 k2 k3 n k5 hm hs
      simp only [Bool.and_eq_true,beq_iff_eq,Bool.not_eq_true'] at q
      obtain ⟨⟨⟨⟨⟨rfl,rfl⟩,hdel⟩,ht⟩,hok⟩,hni⟩:=q
      obtain ⟨nm,bs,mro,ns,qn,hd,sn,sub,ab,col,del⟩:=cd
      dsimp only at hm hdel hok hni
      subst hm hdel
      have hsl:sl=#[k0,k1,k2,k3,some (.builtin n),k5]:=by
        obtain ⟨l⟩:=sl
        simp only at hs
        rw [hs]
      subst hsl
      exact ⟨bm,ns,nm,qn,bs,hd,sn,sub,ab,col,dd,k0,k1,k2,k3,k5,_,XK _ _ ho,.of_isNs (PySem.W.isNs_of_in XK hok),PySem.W.nsMap_none_of_in XK hok hni,PySem.W.tail_of_in XK ht⟩
    · cases q
  · cases q
def sE (EX:aQ→aY) (C:Addr) (t:lO):bK:=fun _ ρ G=>t ρ G fun ds G1=>ds.length≤sizeLine∧EX ρ C G1
theorem aiF (hc:X.calm=true) (Fn:ExcBaseFacts Bn newId inN bmN) (hBn:bmB.contains (.type Bn)=true) (FB:ExcBaseFacts B nid initId bmB) (hg:Gl X x) (hm:X.mg x=some (.ref C)) (hq:PySem.W.excIn X.K C bmB newId=true) (hT:Thr X EX)
    (ha:PA3 X (e :: es) t) (hd:(x == ("__debug__" : Str))=false:=by decide)
    (he:starEach (e :: es) X.env=(false,eval e X.env) :: starEach es X.env:=by rfl) (hplain:(backTo cpos (starEach es X.env)).any (·.1)=false:=by rfl) :
    PS3 X (.Raise (some (.Call (.Name x np) (e :: es) [] cpos)) none pos) (sE EX C t):=by
  intro pins s σ H F I h _tk
  obtain ⟨ρ,G,E3,sr,g,q,dd⟩:=h
  obtain ⟨tl,N,nm,q',bs,hdct,sn,sub,ab,col,dd',k0,k1,k2,k3,k5,mN,hC,hN,hni,T⟩:=xY I.mod.kin hq
  refine wpAny_Raise_call_subU (C:=C) (nm:=nm) (q:=q') (N:=N) (bs:=bs) (bm:=tl) (hdct:=hdct) (sn:=sn) (sub:=sub) (ab:=ab) (col:=col) (dd:=dd') (k0:=k0) (k1:=k1) (k2:=k2) (k3:=k3) (k5:=k5)
    Fn hBn FB (mN:=mN) (T.hasType FB.hasBase) (I.ok.hd hc) (by rw [he];show (false || (backTo cpos (starEach es X.env)).any (·.1))=false;rw [hplain];rfl) hni (iZ I hg hm ⟨rfl,?_⟩ hd)
  have hA:=ha cpos pins s σ H (fun vs H1=>Ts H H1∧∃ ds G1,bF X.K H1 ds vs∧HR X.K H1 G1∧ds.length≤sizeLine∧EX ρ C G1) I ⟨ρ,G,_,sr,g,q,fun vs H1 ds G1 t1 r1 g1 q1=>⟨t1,ds,G1,r1,g1,q1.1,q1.2⟩⟩
  rw [he] at hA ⊢
  refine Calls.evalArgs_plain (cD hA fun us s2 ⟨vs,H2,I2,r2,t1,ds,G1,r1,g1,hl,q1⟩=>?_)
  exact ⟨rfl,by rw [← r2.length,← r1.length];exact hl,I2.bk _ _ hC,hN.keeps I2.bk,T.keeps I2.bk,fun h' e' hm'=>hT.made pins σ H2 s2 ρ C e' us h' I2 (sr.mono t1) hm' ⟨C,G1,rfl,g1,q1⟩⟩
end
end L2
namespace L2
open PySem PySem.Spec PyProof.Rows PySem.W
theorem uZ {env:Env}:∀ (l:List (Str×NameKind)) (acc:List (Str×Addr)),l.filter (fun p=>p.2 == .free)=[]→(forIn l acc fun (p:Str×NameKind) (cs:List (Str×Addr))=>(if p.2 == .free then do let c ← cellOf env p.1;pure (ForInStep.yield ((p.1,c) :: cs)) else pure (ForInStep.yield cs):Sem (ForInStep (List (Str×Addr)))))=pure acc
  | [],acc,_=>rfl
  | p :: r,acc,h=>by
    rw [List.filter_cons] at h
    split at h
    · cases h
    · rename_i q
      rw [List.forIn_cons,if_neg q,pure_bind]
      exact uZ r acc h
theorem xF {env:Env} {x:Str} {cc:Addr} (hc:env.cells.lookup x=some cc):∀ (l:List (Str×NameKind)) (acc:List (Str×Addr)),l.filter (fun p=>p.2 == .free)=[(x,.free)]→(forIn l acc fun (p:Str×NameKind) (cs:List (Str×Addr))=>(if p.2 == .free then do let c ← cellOf env p.1;pure (ForInStep.yield ((p.1,c) :: cs)) else pure (ForInStep.yield cs):Sem (ForInStep (List (Str×Addr)))))=pure ((x,cc) :: acc)
  | [],acc,h=>by cases h
  | p :: r,acc,h=>by
    rw [List.filter_cons] at h
    split at h
    · rename_i q
      have ⟨e1,e2⟩:=List.cons.inj h
      subst e1
      rw [List.forIn_cons,if_pos q]
      unfold cellOf
      simp only [hc,pure_bind]
      exact uZ r _ e2
    · rename_i q
      rw [List.forIn_cons,if_neg q,pure_bind]
      exact xF hc r acc h
theorem qT {scope:Scope} {env:Env} {x:Str} {cc:Addr} (h:scope.names.filter (fun p=>p.2 == .free)=[(x,.free)]) (hc:env.cells.lookup x=some cc):closureFor scope env=pure [(x,cc)]:=by
  unfold closureFor
  have:=xF hc scope.names [] h
  simp only [bind_pure]
  refine Eq.trans ?_ this
  congr 1
theorem aiG {X:Cx} {a b:List Stmt} {t u:TS} (h1:xQ X a t) (h2:xQ X b u):xQ X (a++b) (amK t u):=by
  intro pins s σ H D I h _tk
  rw [wG]
  refine wpAny_bind (cD (h1 pins s σ H { D with nx:=u D } I h) fun f s1 q=>?_)
  intro arZ
  cases f with
  | next =>
    obtain ⟨σ',H',I',q⟩:=q
    exact h2 pins s1 σ' H' D I' q
  | ret v=>exact wpAny_pure q
  | brk=>exact wpAny_pure q
  | cont=>exact wpAny_pure q
theorem aiH {K:Fg} {H:Hp} {G:Gp} {p:Addr} (g:HR K H G) (n:H p=none) (kn:K.lookup p=none):G p=none:=by
  cases q:G p with
  | none=>rfl
  | some u =>
    have z:=g p u q
    cases u with
    | lst ds=>obtain ⟨xs,e,_⟩:=z;rw [n] at e;cases e
    | rol ds =>
      obtain ⟨xs,e,_⟩:=z
      rcases e with (e | ⟨o,e⟩) | ⟨o,_,_,e,_⟩
      · rw [n] at e;cases e
      · rw [n] at e;cases e
      · rw [kn] at e;cases e
    | iI tt kvs =>
      rcases z with ⟨_,xs,e,_⟩ | ⟨_,xs,e,_⟩
      · rw [n] at e;cases e
      · rw [n] at e;cases e
    | rdc ob tt kvs =>
      rcases z with ⟨_,xs,e,_⟩ | ⟨_,xs,e,_⟩
      · rw [n] at e;cases e
      · rw [n] at e;cases e
    | ins C fs=>obtain ⟨dx,vs,e,_⟩:=z;rw [n] at e;cases e
    | exn C=>obtain ⟨o,vs,e,_⟩:=z;rw [n] at e;cases e
    | kst ks=>obtain ⟨_,_,_,e,_⟩:=z;rw [n] at e;cases e
    | nst ks=>obtain ⟨_,_,_,e,_⟩:=z;rw [n] at e;cases e
    | tab q p=>obtain ⟨_,e,_⟩:=z;rw [n] at e;cases e
    | clo c d=>obtain ⟨_,_,_,_,_,_,_,_,e,_⟩:=z;rw [n] at e;cases e
    | tpl ds =>
      obtain ⟨xs,e,_⟩:=z
      rcases e with (e | ⟨o,e⟩) | ⟨o,_,_,e,_⟩
      · rw [n] at e;cases e
      · rw [n] at e;cases e
      · rw [kn] at e;cases e
def au4 (n m:Nat) (tb:aY→bK) (T:Addr) (c:uW) (pos:Pos) (ix:Nat):jT:=fun ds G R EX=>ds.length=m∧tb EX ⟨fun ρ G'=>ρ.length=n∧G' T=some (.tab c.qual pos)∧∃ d,at3 ρ ix=some d∧∀ f,G' f=none→R (.ref f) (aL G' f (.clo c d)),fun _ _=>False,fun _ _=>False,fun _ _=>False⟩ (cT n ds) G
theorem ao2 {qt:Bool} {P:Program} {w:World} {K:Fg} {mg:Str→Option Value} {base:Heap} {x qual:Str} {st:Stmt} {f cC T:Addr} {fd:FuncData} {N ps:List Str} {k ig ix:Nat} {tb:aY→bK} {pre:List Stmt} {c:uW} {pos pg pr:Pos} (F:uU K x qual st f fd) (S:bD N ps (aC st))
    (hb:bI st=(pre++[.FunctionDef c.name c.params c.body [] none [] c.scope none c.name pos])++[.Return (some (.Name c.name pg)) pr]) (hd0:c.params.defaults=[]) (hk0:c.params.kw_defaults=[]) (ha:∀ env,annTrees c.params none env=[])
    (hq:qual ++ ".<locals>." ++ c.name=c.qual) (hfc:fd.code = .ref cC) (hC:CodeHd base cC T) (hbt:base.BuiltinsAt mg T) (hcf:c.scope.names.filter (fun p=>p.2 == .free)=[(c.x,.free)])
    (hig:N[ig]?=some c.name) (hgl:(aC st).names.lookup c.name=some .local) (hix:N[ix]?=some c.x) (hxc:(aC st).names.lookup c.x=some .cell) (hne:ig≠ix) (hdb:(c.name == ("__debug__" : Str))=false) (hcd:(c.name == ("__classdict__" : Str))=false)
    (hbody:∀ (cdv:Value) (A:Around) (outer:List Env) (s:Shared) (H:Hp) (E:XK) (EX:aY),bQ qt k (A.deeper (envOfC qual (aC st) s.heap.objs.size f cdv))→UpX K EX E →
      uX (uY qt P w K mg base N qual (aC st) f cdv A outer s H E) pre (tb EX)):bY qt P w K mg base (iJ P w) (k+1) f fd ps (cO K (au4 N.length ps.length tb T c pos ix)):=by
  obtain ⟨oc,od,dV,kV,doc,pm,an,cdv,ct,osl,rfl,lk,ao3⟩:=F.ex
  rw [hb] at lk ⊢
  have ecd:cdv = .ref cC:=hfc
  subst ecd
  refine adG lk ao3 S (fun vs H Q E h=>?_) hig (.inl hgl) hix hxc hdb hcd fun A outer s H vs Q E hr hsp=>?_
  · obtain ⟨ds,G,R,EX,r,g,⟨hl,q⟩,_⟩:=h
    rw [← r.length,hl]
  · obtain ⟨ds,G,R,EX,r,g,⟨hl,q⟩,kk,hE⟩:=hsp
    obtain ⟨c0,e0⟩:=qI (n:=s.heap.objs.size+1) hxc
    have pf:=ahZ (X:=uY qt P w K mg base N qual (aC st) f (.ref cC) A outer s H E) (name:=c.name) (qual:=c.qual) (params:=c.params) (body:=c.body) (scope:=c.scope) (pos:=pos) (clos:=[(c.x,c0)]) (c:=cC) (T:=T) (i:=ig) hd0 hk0 (ha _) (by
      show (if (aC st).names.lookup c.name == some .globalExplicit then c.name else qual ++ ".<locals>." ++ c.name)=c.qual
      rw [hgl];exact hq) hC hbt rfl (qT hcf e0) S.nd hig (.inl hgl) (.inl rfl)
    refine ⟨_,aiG (hbody (.ref cC) A outer s H E EX hr hE) (a3H pf),cT N.length ds,G,_,?_,g,q,⟨fun ρ G' σ' H' s1 g1 q1=>?_,fun _ _ _ _ _ _ z=>z.elim,fun _ _ _ _ _ _ z=>z.elim,fun _ _ _ _ _ _ z=>z.elim⟩⟩
    · unfold cT start
      rw [r.length]
      exact SR.entry r
    · obtain ⟨hρ,hT,d,hd,hR⟩:=q1
      obtain ⟨ps1,eT,tst⟩:=g1 T _ hT
      refine ⟨ps1,eT,tst,fun fA c' ayH ctv ps' H2 kf ff hf rc hT2 ayI kp=>?_⟩
      obtain ⟨vv,e1,rd⟩:=s1.get hd
      have lσ:ig < σ'.length:=by
        rw [← s1.len,hρ]
        exact (List.getElem?_eq_some_iff.mp hig).1
      refine ⟨fA,vv,by rw [List.getElem?_set_self lσ],by rw [List.getElem?_set_ne hne];exact e1,fun cc u ob ec rv hob hn=>?_⟩
      have ecc:cc=c0:=by rw [e0] at ec;exact (Option.some.inj ec).symm
      subst ecc
      have ts:Ts H' (upd H2 cc (qD ob)):=by
        refine ⟨fun a xs q0=>?_,fun a o u q0=>?_⟩
        · have:=kp a _ (jN q0 eT (fun z=>by cases z)) q0
          rw [aG (aN this hn)];exact this
        · have:=kp a _ (jN q0 eT (fun z=>by cases z)) q0
          rw [aG (aN this hn)];exact this
      have up:∀ a u,H2 a=some u→upd H2 cc (qD ob) a=some u:=fun a u q=>by rw [aG (aN q hn)];exact q
      have gf:G' fA=none:=aiH g1 ff kf
      refine kk (.ref fA) _ (.ref fA) _ (.ref fA) (fun a o q0=>?_) (hR fA gf)
      by_cases z:a=fA
      · subst z
        rw [aF] at q0;cases q0
        exact ⟨cc,c',ayH,_,ctv,ob,u,vv,up _ _ hf,rc.keep fun b o φ q=>up _ _ q,aD,hob,rv,rd.mono ts⟩
      · rw [aP z] at q0
        by_cases y:a=T
        · rw [y,hT] at q0;cases q0
          rw [y]
          exact ⟨ps',up _ _ hT2,ayI.keep fun b o φ q=>up _ _ q⟩
        · exact (g1 a o q0).keep ts fun u q=>up _ _ (kp a u y q)
structure Tq (H H':Hp):Prop where
  tups:∀ a xs,H a=some (.tup xs)→H' a=some (.tup xs)
  ao4:∀ a o xs,H a=some (.mV o (.tup xs))→H' a=some (.mV o (.tup xs))
theorem Tq.sqT {K:Fg} {H H':Hp} (t:Tq H H') {a:Addr} {xs:List V} (h:pF K H a xs):pF K H' a xs:=by
  rcases h with (h | ⟨o,h⟩) | h
  · exact .inl (.inl (t.tups _ _ h))
  · exact .inl (.inr ⟨o,t.ao4 _ _ _ h⟩)
  · exact .inr h
mutual
theorem RD.lU {K:Fg} {H H':Hp} (t:Tq H H'):∀ {d:D} {v:V},RD K H d v→RD K H' d v
  | _,_,.non => .non
  | _,_,.bl b => .bl b
  | _,_,.int i => .int i
  | _,_,.str x => .str x
  | _,_,.ty n => .ty n
  | _,_,.ref a => .ref a
  | _,_,.tup h r e => .tup (t.sqT h) (bF.lU t r) trivial
theorem bF.lU {K:Fg} {H H':Hp} (t:Tq H H'):∀ {ds:List D} {vs:List V},bF K H ds vs→bF K H' ds vs
  | _,_,.nil => .nil
  | _,_,.cons h r => .cons (RD.lU t h) (bF.lU t r)
end
def a65:GO→Bool
  | .clo _ _=>true
  | _=>false
def offC (G:Gp):Gp:=fun a=>match G a with
  | some o=>if a65 o then none else some o
  | none=>none
def onC (G G2:Gp):Gp:=fun a=>match G a with
  | some o=>if a65 o then some o else G2 a
  | none=>G2 a
section
variable {K:Fg} {H:Hp} {cc:Addr} {ob:Obj} {u:Value}
theorem adT (hc:H cc=some (qD ob)):Tq H (tG H cc) :=
  ⟨fun a xs q=>by rw [jQ (jN q hc (fun z=>by cases z))];exact q,fun a o xs q=>by rw [jQ (jN q hc (fun z=>by cases z))];exact q⟩
theorem iC.tG {c':Addr} {q:Str} (hc:H cc=some (qD ob)) (hob:ob.data = .cell (some u)) (r:iC H c' q):iC (tG H cc) c' q:=by
  obtain ⟨oc,vs,t,e,d,r⟩:=r
  refine ⟨oc,vs,t,?_,d,r⟩
  rw [jQ (fun z=>by subst z;rw [hc] at e;cases e;rw [hob] at d;cases d)];exact e
theorem OR.tG {a:Addr} {o:GO} (hc:H cc=some (qD ob)) (hob:ob.data = .cell (some u)) (h:OR K H a o) (n:a65 o=false):OR K (L2.tG H cc) a o:=by
  have t:=adT hc
  have k:∀ v,H a=some v→v≠qD ob→L2.tG H cc a=some v:=fun v q ne=>by rw [jQ (fun z=>by subst z;rw [hc] at q;exact ne (Option.some.inj q).symm)];exact q
  cases o with
  | lst ds=>obtain ⟨xs,e,r⟩:=h;exact ⟨xs,k _ e (fun z=>nomatch z),r.lU t⟩
  | rol ds =>
    obtain ⟨xs,e,r⟩:=h
    refine ⟨xs,?_,r.lU t⟩
    rcases e with (e | ⟨o,e⟩) | e
    · exact .inl (.inl (k _ e (fun z=>nomatch z)))
    · exact .inl (.inr ⟨o,k _ e (fun z=>by cases z)⟩)
    · exact .inr e
  | iI b kvs =>
    rcases h with ⟨z,xs,e,r⟩ | ⟨z,xs,e,r⟩
    · exact .inl ⟨z,xs,k _ e (fun z=>nomatch z),r.imp fun _ _ q=>⟨q.1,q.2.lU t⟩⟩
    · exact .inr ⟨z,xs,k _ e (fun z=>nomatch z),r.imp fun _ _ q=>⟨q.1,q.2.lU t⟩⟩
  | ins C fs=>obtain ⟨dx,vs,e,r⟩:=h;exact ⟨dx,vs,k _ e (fun z=>nomatch z),r.imp fun _ _ q=>⟨q.1,q.2.lU t⟩⟩
  | rdc ob b kvs =>
    rcases h with ⟨z,xs,e,r⟩ | ⟨z,xs,e,r⟩
    · exact .inl ⟨z,xs,k _ e (fun z=>by cases z),r.imp fun _ _ q=>⟨q.1,q.2.lU t⟩⟩
    · exact .inr ⟨z,xs,k _ e (fun z=>by cases z),r.imp fun _ _ q=>⟨q.1,q.2.lU t⟩⟩
  | exn C =>
    obtain ⟨o,vs,e,d,r⟩:=h
    refine ⟨o,vs,?_,d,r⟩
    rw [jQ (fun z=>by
      subst z
      rw [hc] at e
      have e:=Option.some.inj e
      injection e with e1 e2
      rw [← e1,hob] at d
      cases d)]
    exact e
  | tpl ds=>obtain ⟨xs,e,r⟩:=h;exact ⟨xs,t.sqT e,r.lU t⟩
  | kst ks=>obtain ⟨P,w,xs,e,r,q⟩:=h;exact ⟨P,w,xs,k _ e (fun z=>nomatch z),r,fun x hx=>⟨(q x hx).1,t.sqT (q x hx).2⟩⟩
  | nst ks=>obtain ⟨P,w,xs,e,r,q⟩:=h;exact ⟨P,w,xs,k _ e (fun z=>nomatch z),r,fun x hx=>(q x hx).elim fun b z=>⟨b,t.sqT z.1,t.sqT z.2⟩⟩
  | tab q p =>
    obtain ⟨ps,e,r⟩:=h
    refine ⟨ps,k _ e (fun z=>nomatch z),?_⟩
    rcases r with r | ⟨c',e,r⟩
    · exact .inl r
    · exact .inr ⟨c',e,r.tG hc hob⟩
  | clo c d=>cases n
theorem HR.tG {G:Gp} (hc:H cc=some (qD ob)) (hob:ob.data = .cell (some u)) (g:HR K H G):HR K (L2.tG H cc) (offC G):=fun a o e=>by
  unfold offC at e
  split at e
  · rename_i o' q
    split at e
    · cases e
    · rename_i n
      cases e
      exact (g a _ q).tG hc hob (by simpa using n)
  · cases e
end
def qU (qt:Bool) (P:Program) (w:World) (K:Fg) (mg:Str→Option Value) (base:Heap) (k:Nat) (c:uW) (sp:jT):Prop :=
  ∀ (A:Around) (outer:List Env) (s:Shared) (H:Hp) (us:List Value) (vs:List V) (ds:List D) (d:D) (G:Gp) (R:dG) (E:XK) (f:Addr),bQ qt k A→qH P w K mg base A outer s H→A.handled=none→HR K H G→G f=some (.clo c d)→Vals vs us→bF K H ds vs→sp (d :: ds) (offC G) R (fun _ _=>False) →
    codeAny (model P w) A (.call (.ref f) ⟨us,[]⟩) (CR (iJ P w) outer P w H s (fun v H'=>∃ d' G2,RD K H' d' v∧HR K H' G2∧R d' G2) E) s
theorem ao5 {qt:Bool} {P:Program} {w:World} {K:Fg} {mg:Str→Option Value} {base:Heap} {k:Nat} {c:uW} {N ps:List Str} {tb:aY→bK} (S:ScX N ps c.x c.scope) (n8:∀ y∈c.scope.names,y.1=c.x→y.2 ≠ .cell)
    (hb:∀ (cl:List (Str×Addr)) (doc pm cdv ctv:Value) (us:List Value),us.length=ps.length→bindArgs (fnX c.name c.qual c.params c.body c.scope cl .none .none doc pm none cdv ctv) ⟨us,[]⟩=pure (ps.zip us))
    (hbody:∀ (f c' cc:Addr) (A:Around) (outer:List Env) (s:Shared) (H:Hp),bQ qt k (A.deeper (d9 c.qual c.scope s.heap.objs.size f (.ref c') [(c.x,cc)])) →
      uX (cxX qt (iJ P w) P w K mg base N c.qual c.scope f (.ref c') c.x cc A outer s H (fun _ _ _=>False)) c.body (tb fun _ _=>False)) :
    qU qt P w K mg base (k+1) c (aiB N.length (ps.length+1) tb):=by
  intro A outer s H us vs ds d G R E f hr e0 hh g hf rv rd hsp
  obtain ⟨hl,hq⟩:=hsp
  obtain ⟨cc,c',doc,pm,ctv,ob,u,vv,e1,e2,e3,e4,e5,e6⟩:=g f _ hf
  have hl':vs.length=ps.length:=by rw [← rd.length];simpa using hl
  have t:=adT e3
  refine ai1 S n8 hr e0 e1 e2 e3 e4 e5 hh (.of_eq (hb _ _ _ _ _ us (by rw [← rv.length];exact hl'))) rv hl' (fun e s' z=>?_) fun hr2=>?_
  · obtain ⟨_,_,_,_,_,_,_,_,_,_,_,_,z⟩:=z
    exact z
  · refine ⟨_,hbody f c' cc A outer s (L2.tG H cc) hr2,cT N.length (d :: ds),offC G,_,?_,g.tG e3 e4,hq,⟨fun ρ G' σ' H' s1 g1 q1 n=>?_,fun d' G' v H' r1 g1 q1 n=>?_,fun _ _ _ _ _ _ z=>z.elim,fun _ _ _ _ _ _ z=>z.elim⟩⟩
    · unfold cT start
      rw [show (d :: ds).length=(vv :: vs).length by simp [rd.length]]
      exact SR.entry (.cons (e6.lU t) (rd.lU t))
    · exact ⟨.non,G',.non,g1.same (aW n),q1⟩
    · exact ⟨d',G',r1.mono (.same (aW n)),g1.same (aW n),q1⟩
section
variable {X:Cx} {k i:Nat} {c:uW} {sp:jT} {y:Str} {p pos:Pos} {e:Expr} {es:List Expr} {t:lO}
def a3U (i:Nat) (c:uW) (sp:jT) (t:lO):bL:=fun ρ G R=>∃ f d,at3 ρ i=some (.ref f)∧G f=some (.clo c d)∧t ρ G fun ds G1=>G1 f=some (.clo c d)∧sp (d :: ds) (offC G1) (fun v G2=>R v (onC G1 G2)) (fun _ _=>False)
theorem aiI (C:qU qt X.prog X.w X.K X.mg X.base k c sp) (hr:bQ qt k X.A) (hc:X.calm=true) (hN:X.N[i]?=some y) (hv:Vis X.env.scope y) (hdb:(y == ("__debug__" : Str))=false) (hcd:(y == ("__classdict__" : Str))=false) (ha:PA3 X (e :: es) t)
    (he:starEach (e :: es) X.env=(false,eval e X.env) :: starEach es X.env:=by rfl) (hpl:(backTo pos (starEach es X.env)).any (·.1)=false:=by rfl):bV X (.Call (.Name y p) (e :: es) [] pos) (a3U i c sp t):=by
  intro pins s σ H Q I h _tk
  obtain ⟨ρ,G,R,sr,g,⟨f,d,h1,h2,q⟩,kk⟩:=h
  obtain ⟨v,e1,rd⟩:=sr.get h1
  cases rd
  obtain ⟨m,hn,hl⟩:=I.loc
  obtain ⟨u,r,l⟩:=hl i y _ hN e1 hv
  obtain rfl:u=Value.ref f:=r
  have au7:∀ {H:Hp} {s:Shared} {G:Gp},Inv X pins σ H s→HR X.K H G→G f=some (.clo c d)→FnAt f s.heap:=fun {H s G} I g h=>by
    obtain ⟨cc,c',doc,pm,ctv,ob,u,vv,z,_⟩:=g f _ h
    exact ⟨_,_,_,_,(I.hok f _ z).1⟩
  have main:wpAny (model X.prog X.w) X.A (callWith pos (.ref f) [] (backTo pos (starEach (e :: es) X.env)) []) (EP X pins σ Q) X.xe s:=by
    refine callWith_F (au7 I g h2) (cD (ha pos pins s σ H (fun vs H1=>Ts H H1∧∃ ds G1,bF X.K H1 ds vs∧HR X.K H1 G1∧G1 f=some (.clo c d)∧sp (d :: ds) (offC G1) (fun v G2=>R v (onC G1 G2)) (fun _ _=>False)) I ⟨ρ,G,_,sr,g,q,fun vs H1 ds G1 t1 r1 g1 q1=>⟨t1,ds,G1,r1,g1,q1⟩⟩) fun us s1 ⟨vs,H1,I1,r,t1,ds,G1,r1,g1,h3,q1⟩=>⟨au7 I1 g1 h3,?_⟩) he hpl
    refine wpAny_call (codeAny_mono (C X.A X.stack s1 H1 us vs ds d G1 _ (fun _ _ _=>False) f hr I1.env0 (I1.ok.hd hc) g1 h3 r r1 q1) fun r s' hq=>?_)
    cases r with
    | error e =>
      obtain ⟨_,_,_,_,_,_,_,_,_,_,_,_,z⟩:=hq
      exact z.elim
    | ok fl =>
      cases fl with
      | ret u =>
        obtain ⟨v,H',os,bare,un,hok,r,d',G2,r2,g2,q2⟩:=hq
        refine ⟨v,H',I1.call' (ch:=[]) os un hok bare (fun b z=>absurd z (by simp)),r,kk v H' d' (onC G1 G2) (t1.trans ⟨un.tups,un.cQ⟩) r2 (fun a o z=>?_) q2⟩
        unfold onC at z
        split at z
        · rename_i o' q0
          split at z
          · rename_i hcl
            cases z
            cases o with
            | clo c2 d2 =>
              have w:=g1 a _ q0
              refine w.keep ⟨un.tups,un.cQ⟩ fun uu qq=>?_
              obtain ⟨_,_,_,_,_,_,_,_,ew,_⟩:=w
              rw [ew] at qq;cases qq
              exact un.cQ _ _ _ ew
            | _=>cases hcl
          · exact g2 a o z
        · exact g2 a o z
      | next=>exact False.elim hq
      | brk=>exact False.elim hq
      | cont=>exact False.elim hq
  rcases l with ⟨hk,hm⟩ | ⟨hk,cc,hcc,hcell⟩
  · exact wpAny_Call_Name_kw (wpAny_Name (wpAny_loadName_local I.ok.kind hk hn hm main) hdb)
  · rcases hk with hk | hk
    · exact wpAny_Call_Name_kw (wpAny_Name (wpAny_loadName_cell I.ok.kind hk hcc hcell main) hdb)
    · exact wpAny_Call_Name_kw (wpAny_Name (wpAny_loadName_free I.ok.kind hk hcc hcell main hcd) hdb)
end
end L2
namespace L2
open PySem PySem.Spec PyProof.Rows
def aiJ:aQ→Nat→aQ
  | [],_=>[]
  | _ :: r,0=>none :: r
  | x :: r,n+1=>x :: aiJ r n
section
variable {X:Cx}
theorem adU {P:Program} {w:World} {H:Hp} {B:Heap} {x:Addr} (hok:mW P w H B) (n:B.get? x=none):H x=none:=by
  cases e0:H x with
  | none=>rfl
  | some o =>
    have lt:=(hok x o e0)
    obtain ⟨o',ho'⟩:∃ o',B.get? x=some o':=by
      cases o with
      | lst xs=>obtain ⟨_,_,_,_,e⟩:=lt;exact ⟨_,e⟩
      | tup xs=>obtain ⟨_,_,_,o,e,_⟩:=lt;exact ⟨_,e⟩
      | dK kvs=>obtain ⟨_,_,_,_,o,_,_,e,_⟩:=lt;exact ⟨_,e⟩
      | dT kvs=>obtain ⟨_,_,_,_,o,_,_,e,_⟩:=lt;exact ⟨_,e⟩
      | set S n=>obtain ⟨o,_,_,_,e,_⟩:=lt;exact ⟨_,e⟩
      | ins C dx fs=>obtain ⟨_,_,_,e,_⟩:=lt;exact ⟨_,e⟩
      | own y=>obtain ⟨_,e⟩:=lt;exact ⟨_,e⟩
      | xd fs=>obtain ⟨_,⟨_,_,_,e,_⟩,_⟩:=lt;exact ⟨_,e⟩
      | rng lo hi=>obtain ⟨_,_,_,e⟩:=lt;exact ⟨_,e⟩
      | mV ob u=>obtain ⟨e,_⟩:=lt;exact ⟨_,e⟩
      | qF ps=>exact ⟨_,(show B.get? x=some _ from lt)⟩
      | met f y=>exact ⟨_,(show B.get? x=some _ from lt)⟩
      | ext φ=>obtain ⟨_,⟨_,e⟩,_⟩:=lt;exact ⟨_,e⟩
    rw [n] at ho';cases ho'
end
end L2
namespace L2
open PySem PySem.Spec PyProof.Rows
section
variable {X:Cx} {a b c:Expr} {ta tb tc:bL} {pos:Pos}
def a66 (t:bL):bL:=fun ρ G R=>t ρ G fun x G1=>match x with
  | .int i=>R (.int (-i)) G1
  | _=>False
theorem au8 (ha:bV X a ta):bV X (.UnaryOp .USub a pos) (a66 ta):=PE.imp (asF amW ha) fun σ H Q h=>by
  obtain ⟨ρ,G,R,s,g,t,k⟩:=h
  refine ⟨ρ,G,_,s,g,t,fun v H1 x G1 t1 r g1 q=>?_⟩
  cases r with
  | int i=>exact ⟨i,rfl,k _ H1 _ G1 t1 (.int _) g1 q⟩
  | _=>exact False.elim q
def aO:Nat→D→Bool
  | 0,.tup _=>false
  | n+1,.tup xs=>xs.all (aO n)
  | _,.ref _=>false
  | _,.ty _=>false
  | _,_=>true
mutual
def eqP:D→D→Bool
  | .non,.non=>true
  | .bl a,.bl b=>a == b
  | .bl a,.int b=>(if a then 1 else 0) == b
  | .int a,.bl b=>a == (if b then 1 else 0)
  | .int a,.int b=>a == b
  | .str a,.str b=>a == b
  | .tup xs,.tup ys=>j4 xs ys
  | _,_=>false
def j4:List D→List D→Bool
  | [],[]=>true
  | x :: xs,y :: ys=>eqP x y&&j4 xs ys
  | _,_=>false
end
def o9 (xs ys:List D) (j:Nat):Bool:=match xs[j]?,ys[j]? with
  | some a,some b=>eqP a b
  | _,_=>false
theorem zK (n:Nat) (e:Nat→Bool):(List.range (n+1)).all e=(e 0&&(List.range n).all fun j=>e (j+1)):=by
  rw [List.range_succ_eq_map,List.all_cons,List.all_map];rfl
theorem gF:∀ (xs ys:List D),j4 xs ys=((List.range (min xs.length ys.length)).all (o9 xs ys)&&xs.length == ys.length)
  | [],[]=>rfl
  | [],y :: ys=>by simp [j4]
  | x :: xs,[]=>by simp [j4]
  | x :: xs,y :: ys=>by
    have ih:=gF xs ys
    have e:min (x :: xs).length (y :: ys).length=min xs.length ys.length+1:=by simp only [List.length_cons];omega
    rw [j4,ih,e,zK]
    have e0:o9 (x :: xs) (y :: ys) 0=eqP x y:=rfl
    have e1:(fun j=>o9 (x :: xs) (y :: ys) (j+1))=o9 xs ys:=by
      funext j
      simp [o9]
    have e2:((x :: xs).length == (y :: ys).length)=(xs.length == ys.length):=by
      simp only [List.length_cons]
      by_cases h:xs.length=ys.length
      · simp [h]
      · have h':¬ (xs.length+1=ys.length+1):=by omega
        simp [h,h']
    rw [e0,e1,e2,Bool.and_assoc]
theorem a67 {xs ys:List D} (h:(xs.length != ys.length)=true):j4 xs ys=false:=by
  rw [gF]
  have:(xs.length == ys.length)=false:=by simpa using h
  rw [this,Bool.and_false]
theorem a2E {xs ys:List D} (h:xs.length=ys.length):j4 xs ys=(List.range xs.length).all (o9 xs ys):=by
  rw [gF,h]
  simp
mutual
theorem RD.inj {pins:List (Addr×Obj)} {σ:St} {H:Hp} {s:Shared} (I:Inv X pins σ H s):∀ {n:Nat} {x y:D} {v:V},aO n x=true→aO n y=true→RD X.K H x v→RD X.K H y v→x=y
  | _,_,_,_,_,_,.non,.non=>rfl
  | _,_,_,_,_,_,.bl _,.bl _=>rfl
  | _,_,_,_,_,_,.int _,.int _=>rfl
  | _,_,_,_,_,_,.str _,.str _=>rfl
  | _,_,_,_,hx,_,.ty _,.ty _=>rfl
  | _,_,_,_,_,_,.ref _,.ref _=>rfl
  | n,_,_,_,hx,_,.ref _,.tup _ _ _=>by cases n <;> simp [aO] at hx
  | n,_,_,_,_,hy,.tup _ _ _,.ref _=>by cases n <;> simp [aO] at hy
  | 0,_,_,_,hx,_,.tup _ _ _,.tup _ _ _=>by simp [aO] at hx
  | n+1,_,_,_,hx,hy,.tup h1 r1 _,.tup h2 r2 _=>by
    have e:=I.vZ h1 h2
    subst e
    rw [bF.inj I (n:=n) (by simpa [aO] using hx) (by simpa [aO] using hy) r1 r2]
theorem bF.inj {pins:List (Addr×Obj)} {σ:St} {H:Hp} {s:Shared} (I:Inv X pins σ H s):∀ {n:Nat} {xs ys:List D} {vs:List V},(∀ x∈xs,aO n x=true)→(∀ y∈ys,aO n y=true)→bF X.K H xs vs→bF X.K H ys vs→xs=ys
  | _,_,_,_,_,_,.nil,.nil=>rfl
  | n,_,_,_,hx,hy,.cons h1 r1,.cons h2 r2=>by
    rw [RD.inj I (hx _ (by simp)) (hy _ (by simp)) h1 h2,bF.inj I (fun x m=>hx x (by simp [m])) (fun y m=>hy y (by simp [m])) r1 r2]
end
mutual
theorem a68:∀ {n:Nat} {x:D},aO n x=true→eqP x x=true
  | _,.non,_=>rfl
  | _,.bl b,_=>by simp [eqP]
  | _,.int b,_=>by simp [eqP]
  | _,.str b,_=>by simp [eqP]
  | n,.ref _,h=>by cases n <;> simp [aO] at h
  | n,.ty _,h=>by cases n <;> simp [aO] at h
  | 0,.tup _,h=>by simp [aO] at h
  | n+1,.tup xs,h=>by rw [eqP];exact wJ (n:=n) (by simpa [aO] using h)
theorem wJ:∀ {n:Nat} {xs:List D},(∀ x∈xs,aO n x=true)→j4 xs xs=true
  | _,[],_=>rfl
  | n,x :: xs,h=>by rw [j4,a68 (h x (by simp)),wJ fun y m=>h y (by simp [m])];rfl
end
theorem Vals.adV {K:Fg} {H:Hp} {ds:List D} {xs:List V} {us:List Value} (r:bF K H ds xs) (v:Vals xs us) {j:Nat} {u:Value} (e:us[j]?=some u):∃ d x,ds[j]?=some d∧RD K H d x∧RelV x u:=by
  have hj:j < us.length:=(List.getElem?_eq_some_iff.mp e).1
  have hj':j < xs.length:=by rw [v.length];exact hj
  have ex:xs[j]?=some xs[j]:=List.getElem?_eq_getElem hj'
  obtain ⟨u',e1,r1⟩:=v.get ex
  rw [e] at e1;cases e1
  obtain ⟨d,e2,r2⟩:=r.ai6 ex
  exact ⟨d,_,e2,r2,r1⟩
theorem qW {A:Around} {s:Shared} {K:Fg} {H:Hp} {n:Nat} {xs ys:List D} {vx vy:List V} {us ws:List Value} (rx:bF K H xs vx) (ry:bF K H ys vy) (vx':Vals vx us) (vy':Vals vy ws)
    (ih:∀ x∈xs,∀ y∈ys,∀ (v w:V) (u t:Value),RD K H x v→RD K H y w→RelV v u→RelV w t→SeqAt.EqAt A s u t (eqP x y)) :
    ∀ j (h1:j < us.toArray.size) (h2:j < ws.toArray.size),SeqAt.EqAt A s us.toArray[j] ws.toArray[j] (o9 xs ys j):=by
  intro j h1 h2
  have e1:us[j]?=some us.toArray[j]:=by simp [List.getElem?_eq_getElem (show j < us.length by simpa using h1)]
  have e2:ws[j]?=some ws.toArray[j]:=by simp [List.getElem?_eq_getElem (show j < ws.length by simpa using h2)]
  obtain ⟨d,x,f1,f2,f3⟩:=Vals.adV rx vx' e1
  obtain ⟨d',y,g1,g2,g3⟩:=Vals.adV ry vy' e2
  have e:o9 xs ys j=eqP d d':=by simp [o9,f1,g1]
  rw [e]
  exact ih d (List.mem_of_getElem? f1) d' (List.mem_of_getElem? g1) x y _ _ f2 g2 f3 g3
def scD:D→Bool
  | .non=>true
  | .bl _=>true
  | .int _=>true
  | .str _=>true
  | _=>false
theorem aiK {A:Around} {s:Shared} {K:Fg} {H:Hp} {x y:D} {vx vy:V} {u v:Value} (hx:scD x=true) (hy:scD y=true) (rx:RD K H x vx) (ry:RD K H y vy) (ru:RelV vx u) (rv:RelV vy v):SeqAt.EqAt A s u v (eqP x y):=by
  have fx:pI vx=true:=by cases rx <;> first | rfl | cases hx
  have fy:pI vy=true:=by cases ry <;> first | rfl | cases hy
  have e:eqV vx vy=eqP x y:=by cases rx <;> cases ry <;> first | (simp [eqV,eqP];done) | cases hx | cases hy
  rw [← e]
  exact wD ru rv fx fy
theorem qX {A:Around} {n:Nat} (h:A.units+(n+1) < cLine):A.in1.units+n < cLine:=by
  show A.units+1+n < cLine
  omega
theorem wK {pins:List (Addr×Obj)} {σ:St} {H:Hp} {s:Shared} (I:Inv X pins σ H s):∀ (n:Nat) (A:Around) (x y:D) (vx vy:V) (u v:Value),A.units+n < cLine→aO n x=true→aO n y=true→RD X.K H x vx→RD X.K H y vy→RelV vx u→RelV vy v→SeqAt.EqAt A s u v (eqP x y):=by
  intro n
  induction n with
  | zero =>
    intro A x y vx vy u v hu hx hy rx ry ru rv
    have sx:scD x=true:=by cases x <;> first | rfl | (simp [aO] at hx)
    have sy:scD y=true:=by cases y <;> first | rfl | (simp [aO] at hy)
    exact aiK sx sy rx ry ru rv
  | succ n ih =>
    intro A x y vx vy u v hu hx hy rx ry ru rv
    have hu0:A.units < cLine:=by omega
    cases rx with
    | @tup ax xs ds hax rax eax =>
      cases ru
      obtain ⟨its,vv,px,_⟩:=I.tuple hax
      cases ry with
      | @tup ay ys es hay ray eay =>
        cases rv
        obtain ⟨jts,ww,py,_⟩:=I.tuple hay
        by_cases hab:ax=ay
        · subst hab
          have e:=RD.inj I (n:=n+1) hx hy (.tup hax rax eax) (.tup hay ray eay)
          rw [e,a68 hy]
          exact SeqAt.EqAt.same _
        · refine SeqAt.EqAt.of_refs hab ?_
          have z:=SeqAt.RcAt.tuples (e:=o9 ds es) (show s.heap.IsTuple ax its.toArray from px) (show s.heap.IsTuple ay jts.toArray from py) hu0 (qW (n:=n) rax ray vv ww fun x mx y my v w u t r1 r2 r3 r4 =>
            ih A.in1 x y v w u t (qX hu) (List.all_eq_true.mp (by simpa [aO] using hx) x mx) (List.all_eq_true.mp (by simpa [aO] using hy) y my) r1 r2 r3 r4)
          have e:((List.range (min its.toArray.size jts.toArray.size)).all (o9 ds es)&&its.toArray.size == jts.toArray.size)=eqP (.tup ds) (.tup es):=by
            rw [eqP,gF,List.size_toArray,List.size_toArray,← vv.length,← ww.length,← rax.length,← ray.length]
          rw [e] at z
          exact z
      | non=>cases rv;exact SeqAt.EqAt.tuple_none (show s.heap.IsTuple ax its.toArray from px) hu0
      | bl b=>cases rv;exact SeqAt.EqAt.tuple_bool b (show s.heap.IsTuple ax its.toArray from px) hu0
      | int i=>obtain ⟨t,rfl⟩:=rv;exact SeqAt.EqAt.tuple_int i t (show s.heap.IsTuple ax its.toArray from px) hu0
      | str z=>obtain ⟨t,rfl⟩:=rv;exact SeqAt.EqAt.tuple_str z t (show s.heap.IsTuple ax its.toArray from px) hu0
      | ref _=>simp [aO] at hy
      | ty _=>simp [aO] at hy
    | ref _=>simp [aO] at hx
    | ty _=>simp [aO] at hx
    | non =>
      cases ry with
      | @tup ay ys es hay ray =>
        cases rv;cases ru
        obtain ⟨jts,ww,py,_⟩:=I.tuple hay
        exact SeqAt.EqAt.none_tuple (show s.heap.IsTuple ay jts.toArray from py) hu0
      | ref _=>simp [aO] at hy
      | ty _=>simp [aO] at hy
      | _=>exact wD ru rv rfl rfl
    | bl b =>
      cases ry with
      | @tup ay ys es hay ray =>
        cases rv;cases ru
        obtain ⟨jts,ww,py,_⟩:=I.tuple hay
        exact SeqAt.EqAt.bool_tuple b (show s.heap.IsTuple ay jts.toArray from py) hu0
      | ref _=>simp [aO] at hy
      | ty _=>simp [aO] at hy
      | _=>exact wD ru rv rfl rfl
    | int i =>
      cases ry with
      | @tup ay ys es hay ray =>
        cases rv;obtain ⟨t,rfl⟩:=ru
        obtain ⟨jts,ww,py,_⟩:=I.tuple hay
        exact SeqAt.EqAt.int_tuple i t (show s.heap.IsTuple ay jts.toArray from py) hu0
      | ref _=>simp [aO] at hy
      | ty _=>simp [aO] at hy
      | _=>exact wD ru rv rfl rfl
    | str z =>
      cases ry with
      | @tup ay ys es hay ray =>
        cases rv;obtain ⟨t,rfl⟩:=ru
        obtain ⟨jts,ww,py,_⟩:=I.tuple hay
        exact SeqAt.EqAt.str_tuple z t (show s.heap.IsTuple ay jts.toArray from py) hu0
      | ref _=>simp [aO] at hy
      | ty _=>simp [aO] at hy
      | _=>exact wD ru rv rfl rfl
end
end L2
namespace L2
open PySem PySem.Spec PyProof.Rows
section
variable {X:Cx}
theorem ayK {pins:List (Addr×Obj)} {σ:St} {H:Hp} {s:Shared} (I:Inv X pins σ H s) (n:Nat) (A:Around) (x y:D) (vx vy:V) (u v:Value) (hu:A.units+(n+1) < cLine) (hx:aO (n+1) x=true) (hy:aO (n+1) y=true) (rx:RD X.K H x vx) (ry:RD X.K H y vy) (ru:RelV vx u) (rv:RelV vy v):SeqAt.RcAt A s u v (eqP x y):=by
  have hu0:A.units < cLine:=by omega
  cases rx with
  | non =>
    cases ru
    cases ry with
    | non =>
      cases rv
      first | exact SeqAt.RcAt.none_none | (simp only [eqP];exact SeqAt.RcAt.none_none)
    | bl b2 =>
      cases rv
      first | exact SeqAt.RcAt.none_bool b2 | (simp only [eqP];exact SeqAt.RcAt.none_bool b2)
    | int i2 =>
      obtain ⟨t2,rfl⟩:=rv
      first | exact SeqAt.RcAt.none_int i2 t2 | (simp only [eqP];exact SeqAt.RcAt.none_int i2 t2)
    | str z2 =>
      obtain ⟨t2,rfl⟩:=rv
      first | exact SeqAt.RcAt.none_str z2 t2 | (simp only [eqP];exact SeqAt.RcAt.none_str z2 t2)
    | @tup a2 xs2 nC h2 r2 =>
      cases rv
      obtain ⟨its2,xT,p2,_⟩:=I.tuple h2
      first | exact SeqAt.RcAt.none_tuple (show s.heap.IsTuple a2 its2.toArray from p2) hu0 | (simp only [eqP];exact SeqAt.RcAt.none_tuple (show s.heap.IsTuple a2 its2.toArray from p2) hu0)
    | ref _=>simp [aO] at hy
    | ty _=>simp [aO] at hy
  | bl b1 =>
    cases ru
    cases ry with
    | non =>
      cases rv
      first | exact SeqAt.RcAt.bool_none b1 | (simp only [eqP];exact SeqAt.RcAt.bool_none b1)
    | bl b2 =>
      cases rv
      first | exact SeqAt.RcAt.bool_bool b1 b2 | (simp only [eqP];exact SeqAt.RcAt.bool_bool b1 b2)
    | int i2 =>
      obtain ⟨t2,rfl⟩:=rv
      first | exact SeqAt.RcAt.bool_int b1 i2 t2 | (simp only [eqP];exact SeqAt.RcAt.bool_int b1 i2 t2)
    | str z2 =>
      obtain ⟨t2,rfl⟩:=rv
      first | exact SeqAt.RcAt.bool_str b1 z2 t2 | (simp only [eqP];exact SeqAt.RcAt.bool_str b1 z2 t2)
    | @tup a2 xs2 nC h2 r2 =>
      cases rv
      obtain ⟨its2,xT,p2,_⟩:=I.tuple h2
      first | exact SeqAt.RcAt.bool_tuple b1 (show s.heap.IsTuple a2 its2.toArray from p2) hu0 | (simp only [eqP];exact SeqAt.RcAt.bool_tuple b1 (show s.heap.IsTuple a2 its2.toArray from p2) hu0)
    | ref _=>simp [aO] at hy
    | ty _=>simp [aO] at hy
  | int i1 =>
    obtain ⟨t1,rfl⟩:=ru
    cases ry with
    | non =>
      cases rv
      first | exact SeqAt.RcAt.int_none i1 t1 | (simp only [eqP];exact SeqAt.RcAt.int_none i1 t1)
    | bl b2 =>
      cases rv
      first | exact SeqAt.RcAt.int_bool i1 t1 b2 | (simp only [eqP];exact SeqAt.RcAt.int_bool i1 t1 b2)
    | int i2 =>
      obtain ⟨t2,rfl⟩:=rv
      first | exact SeqAt.RcAt.int_int i1 t1 i2 t2 | (simp only [eqP];exact SeqAt.RcAt.int_int i1 t1 i2 t2)
    | str z2 =>
      obtain ⟨t2,rfl⟩:=rv
      first | exact SeqAt.RcAt.int_str i1 t1 z2 t2 | (simp only [eqP];exact SeqAt.RcAt.int_str i1 t1 z2 t2)
    | @tup a2 xs2 nC h2 r2 =>
      cases rv
      obtain ⟨its2,xT,p2,_⟩:=I.tuple h2
      first | exact SeqAt.RcAt.int_tuple i1 t1 (show s.heap.IsTuple a2 its2.toArray from p2) hu0 | (simp only [eqP];exact SeqAt.RcAt.int_tuple i1 t1 (show s.heap.IsTuple a2 its2.toArray from p2) hu0)
    | ref _=>simp [aO] at hy
    | ty _=>simp [aO] at hy
  | str z1 =>
    obtain ⟨t1,rfl⟩:=ru
    cases ry with
    | non =>
      cases rv
      first | exact SeqAt.RcAt.str_none z1 t1 | (simp only [eqP];exact SeqAt.RcAt.str_none z1 t1)
    | bl b2 =>
      cases rv
      first | exact SeqAt.RcAt.str_bool z1 t1 b2 | (simp only [eqP];exact SeqAt.RcAt.str_bool z1 t1 b2)
    | int i2 =>
      obtain ⟨t2,rfl⟩:=rv
      first | exact SeqAt.RcAt.str_int z1 t1 i2 t2 | (simp only [eqP];exact SeqAt.RcAt.str_int z1 t1 i2 t2)
    | str z2 =>
      obtain ⟨t2,rfl⟩:=rv
      first | exact SeqAt.RcAt.str_str z1 t1 z2 t2 | (simp only [eqP];exact SeqAt.RcAt.str_str z1 t1 z2 t2)
    | @tup a2 xs2 nC h2 r2 =>
      cases rv
      obtain ⟨its2,xT,p2,_⟩:=I.tuple h2
      first | exact SeqAt.RcAt.str_tuple z1 t1 (show s.heap.IsTuple a2 its2.toArray from p2) hu0 | (simp only [eqP];exact SeqAt.RcAt.str_tuple z1 t1 (show s.heap.IsTuple a2 its2.toArray from p2) hu0)
    | ref _=>simp [aO] at hy
    | ty _=>simp [aO] at hy
  | @tup a1 xs1 wL h1 r1 =>
    cases ru
    obtain ⟨cP,vv1,p1,_⟩:=I.tuple h1
    cases ry with
    | non =>
      cases rv
      first | exact SeqAt.RcAt.tuple_none (show s.heap.IsTuple a1 cP.toArray from p1) hu0 | (simp only [eqP];exact SeqAt.RcAt.tuple_none (show s.heap.IsTuple a1 cP.toArray from p1) hu0)
    | bl b2 =>
      cases rv
      first | exact SeqAt.RcAt.tuple_bool b2 (show s.heap.IsTuple a1 cP.toArray from p1) hu0 | (simp only [eqP];exact SeqAt.RcAt.tuple_bool b2 (show s.heap.IsTuple a1 cP.toArray from p1) hu0)
    | int i2 =>
      obtain ⟨t2,rfl⟩:=rv
      first | exact SeqAt.RcAt.tuple_int i2 t2 (show s.heap.IsTuple a1 cP.toArray from p1) hu0 | (simp only [eqP];exact SeqAt.RcAt.tuple_int i2 t2 (show s.heap.IsTuple a1 cP.toArray from p1) hu0)
    | str z2 =>
      obtain ⟨t2,rfl⟩:=rv
      first | exact SeqAt.RcAt.tuple_str z2 t2 (show s.heap.IsTuple a1 cP.toArray from p1) hu0 | (simp only [eqP];exact SeqAt.RcAt.tuple_str z2 t2 (show s.heap.IsTuple a1 cP.toArray from p1) hu0)
    | @tup a2 xs2 nC h2 r2 =>
      cases rv
      obtain ⟨its2,xT,p2,_⟩:=I.tuple h2
      have z:=SeqAt.RcAt.tuples (e:=o9 wL nC) (show s.heap.IsTuple a1 cP.toArray from p1) (show s.heap.IsTuple a2 its2.toArray from p2) hu0 (qW (n:=n) r1 r2 vv1 xT fun x mx y my v w u t q1 q2 q3 q4 =>
            wK I n A.in1 x y v w u t (qX hu) (List.all_eq_true.mp (by simpa [aO] using hx) x mx) (List.all_eq_true.mp (by simpa [aO] using hy) y my) q1 q2 q3 q4)
      have e:((List.range (min cP.toArray.size its2.toArray.size)).all (o9 wL nC)&&cP.toArray.size == its2.toArray.size)=eqP (.tup wL) (.tup nC):=by
        rw [eqP,gF,List.size_toArray,List.size_toArray,← vv1.length,← xT.length,← r1.length,← r2.length]
      rw [e] at z
      exact z
    | ref _=>simp [aO] at hy
    | ty _=>simp [aO] at hy
  | ref _=>simp [aO] at hx
  | ty _=>simp [aO] at hx
theorem ayL {pins:List (Addr×Obj)} {σ:St} {H:Hp} {s:Shared} (I:Inv X pins σ H s) (n:Nat) (A:Around) {a1:Addr} {xs:List V} (hl:tE X.K H a1 xs) (y:D) (vy:V) (v:Value) (hu0:A.units < cLine) (hy:aO n y=true) (ry:RD X.K H y vy) (rv:RelV vy v):SeqAt.RcAt A s (.ref a1) v false:=by
  obtain ⟨cP,vv1,pl,_⟩:=I.list hl
  have p1:=pl.isList
  cases ry with
  | non =>
    cases rv
    exact SeqAt.RcAt.list_none p1 hu0
  | bl b2 =>
    cases rv
    exact SeqAt.RcAt.list_bool b2 p1 hu0
  | int i2 =>
    obtain ⟨t2,rfl⟩:=rv
    exact SeqAt.RcAt.list_int i2 t2 p1 hu0
  | str z2 =>
    obtain ⟨t2,rfl⟩:=rv
    exact SeqAt.RcAt.list_str z2 t2 p1 hu0
  | @tup a2 xs2 nC h2 r2 =>
    cases rv
    obtain ⟨its2,xT,p2,_⟩:=I.tuple h2
    exact SeqAt.RcAt.list_tuple (show s.heap.IsList a1 cP.toArray from p1) (show s.heap.IsTuple a2 its2.toArray from p2) hu0
  | ref _=>cases n <;> simp [aO] at hy
  | ty _=>cases n <;> simp [aO] at hy
theorem ayM {pins:List (Addr×Obj)} {σ:St} {H:Hp} {s:Shared} (I:Inv X pins σ H s) (n:Nat) (A:Around) {a2:Addr} {xs:List V} (hl:tE X.K H a2 xs) (y:D) (vy:V) (v:Value) (hu0:A.units < cLine) (hy:aO n y=true) (ry:RD X.K H y vy) (rv:RelV vy v):SeqAt.RcAt A s v (.ref a2) false:=by
  obtain ⟨its2,xT,pl,_⟩:=I.list hl
  have p2:=pl.isList
  cases ry with
  | non =>
    cases rv
    exact SeqAt.RcAt.none_list p2 hu0
  | bl b1 =>
    cases rv
    exact SeqAt.RcAt.bool_list b1 p2 hu0
  | int i1 =>
    obtain ⟨t1,rfl⟩:=rv
    exact SeqAt.RcAt.int_list i1 t1 p2 hu0
  | str z1 =>
    obtain ⟨t1,rfl⟩:=rv
    exact SeqAt.RcAt.str_list z1 t1 p2 hu0
  | @tup a1 xs1 wL h1 r1 =>
    cases rv
    obtain ⟨cP,vv1,p1,_⟩:=I.tuple h1
    exact SeqAt.RcAt.tuple_list (show s.heap.IsTuple a1 cP.toArray from p1) (show s.heap.IsList a2 its2.toArray from p2) hu0
  | ref _=>cases n <;> simp [aO] at hy
  | ty _=>cases n <;> simp [aO] at hy
theorem ayN {pins:List (Addr×Obj)} {σ:St} {H:Hp} {s:Shared} (I:Inv X pins σ H s) (n:Nat) (A:Around) {a1 a2:Addr} {xs1 xs2:List V} {wL nC:List D} (h1:tE X.K H a1 xs1) (h2:tE X.K H a2 xs2) (r1:bF X.K H wL xs1) (r2:bF X.K H nC xs2)
    (hu:A.units+(n+1) < cLine) (hx:wL.all (aO n)=true) (hy:nC.all (aO n)=true):SeqAt.RcAt A s (.ref a1) (.ref a2) (j4 wL nC):=by
  have hu0:A.units < cLine:=by omega
  obtain ⟨cP,vv1,q1,_⟩:=I.list h1
  obtain ⟨its2,xT,q2,_⟩:=I.list h2
  have p1:=q1.isList
  have p2:=q2.isList
  by_cases hl:wL.length=nC.length
  · have hsz:cP.toArray.size=its2.toArray.size:=by rw [List.size_toArray,List.size_toArray,← vv1.length,← xT.length,← r1.length,← r2.length];exact hl
    have z:=SeqAt.RcAt.lists (e:=o9 wL nC) p1 p2 hsz hu0 (qW (n:=n) r1 r2 vv1 xT fun x mx y my v w u t q1 q2 q3 q4 =>
            wK I n A.in1 x y v w u t (qX hu) (List.all_eq_true.mp hx x mx) (List.all_eq_true.mp hy y my) q1 q2 q3 q4)
    have e:(List.range cP.toArray.size).all (o9 wL nC)=j4 wL nC:=by rw [a2E hl,List.size_toArray,← vv1.length,← r1.length]
    rw [e] at z
    exact z
  · have hne:(cP.toArray.size != its2.toArray.size)=true:=by rw [List.size_toArray,List.size_toArray,← vv1.length,← xT.length,← r1.length,← r2.length];simpa using hl
    have e:j4 wL nC=false:=a67 (by simpa using hl)
    rw [e]
    exact SeqAt.RcAt.lists_lengths p1 p2 hne hu0
theorem ao7 {pins:List (Addr×Obj)} {σ:St} {H:Hp} {s:Shared} (I:Inv X pins σ H s) (n:Nat) (A:Around) (x y:D) (vx vy:V) (u v:Value) (hu:A.units+(n+1) < cLine) (hx:aO (n+1) x=true) (hy:aO (n+1) y=true) (rx:RD X.K H x vx) (ry:RD X.K H y vy) (ru:RelV vx u) (rv:RelV vy v):SeqAt.RcNeAt A s u v (!eqP x y):=by
  have hu0:A.units < cLine:=by omega
  cases rx with
  | non =>
    cases ru
    cases ry with
    | non =>
      cases rv
      first | exact SeqAt.RcNeAt.none_none | (simp only [eqP];exact SeqAt.RcNeAt.none_none)
    | bl b2 =>
      cases rv
      first | exact SeqAt.RcNeAt.none_bool b2 | (simp only [eqP];exact SeqAt.RcNeAt.none_bool b2)
    | int i2 =>
      obtain ⟨t2,rfl⟩:=rv
      first | exact SeqAt.RcNeAt.none_int i2 t2 | (simp only [eqP];exact SeqAt.RcNeAt.none_int i2 t2)
    | str z2 =>
      obtain ⟨t2,rfl⟩:=rv
      first | exact SeqAt.RcNeAt.none_str z2 t2 | (simp only [eqP];exact SeqAt.RcNeAt.none_str z2 t2)
    | @tup a2 xs2 nC h2 r2 =>
      cases rv
      obtain ⟨its2,xT,p2,_⟩:=I.tuple h2
      first | exact SeqAt.RcNeAt.none_tuple (show s.heap.IsTuple a2 its2.toArray from p2) hu0 | (simp only [eqP];exact SeqAt.RcNeAt.none_tuple (show s.heap.IsTuple a2 its2.toArray from p2) hu0)
    | ref _=>simp [aO] at hy
    | ty _=>simp [aO] at hy
  | bl b1 =>
    cases ru
    cases ry with
    | non =>
      cases rv
      first | exact SeqAt.RcNeAt.bool_none b1 | (simp only [eqP];exact SeqAt.RcNeAt.bool_none b1)
    | bl b2 =>
      cases rv
      first | exact SeqAt.RcNeAt.bool_bool b1 b2 | (simp only [eqP];exact SeqAt.RcNeAt.bool_bool b1 b2)
    | int i2 =>
      obtain ⟨t2,rfl⟩:=rv
      first | exact SeqAt.RcNeAt.bool_int b1 i2 t2 | (simp only [eqP];exact SeqAt.RcNeAt.bool_int b1 i2 t2)
    | str z2 =>
      obtain ⟨t2,rfl⟩:=rv
      first | exact SeqAt.RcNeAt.bool_str b1 z2 t2 | (simp only [eqP];exact SeqAt.RcNeAt.bool_str b1 z2 t2)
    | @tup a2 xs2 nC h2 r2 =>
      cases rv
      obtain ⟨its2,xT,p2,_⟩:=I.tuple h2
      first | exact SeqAt.RcNeAt.bool_tuple b1 (show s.heap.IsTuple a2 its2.toArray from p2) hu0 | (simp only [eqP];exact SeqAt.RcNeAt.bool_tuple b1 (show s.heap.IsTuple a2 its2.toArray from p2) hu0)
    | ref _=>simp [aO] at hy
    | ty _=>simp [aO] at hy
  | int i1 =>
    obtain ⟨t1,rfl⟩:=ru
    cases ry with
    | non =>
      cases rv
      first | exact SeqAt.RcNeAt.int_none i1 t1 | (simp only [eqP];exact SeqAt.RcNeAt.int_none i1 t1)
    | bl b2 =>
      cases rv
      first | exact SeqAt.RcNeAt.int_bool i1 t1 b2 | (simp only [eqP];exact SeqAt.RcNeAt.int_bool i1 t1 b2)
    | int i2 =>
      obtain ⟨t2,rfl⟩:=rv
      first | exact SeqAt.RcNeAt.int_int i1 t1 i2 t2 | (simp only [eqP];exact SeqAt.RcNeAt.int_int i1 t1 i2 t2)
    | str z2 =>
      obtain ⟨t2,rfl⟩:=rv
      first | exact SeqAt.RcNeAt.int_str i1 t1 z2 t2 | (simp only [eqP];exact SeqAt.RcNeAt.int_str i1 t1 z2 t2)
    | @tup a2 xs2 nC h2 r2 =>
      cases rv
      obtain ⟨its2,xT,p2,_⟩:=I.tuple h2
      first | exact SeqAt.RcNeAt.int_tuple i1 t1 (show s.heap.IsTuple a2 its2.toArray from p2) hu0 | (simp only [eqP];exact SeqAt.RcNeAt.int_tuple i1 t1 (show s.heap.IsTuple a2 its2.toArray from p2) hu0)
    | ref _=>simp [aO] at hy
    | ty _=>simp [aO] at hy
  | str z1 =>
    obtain ⟨t1,rfl⟩:=ru
    cases ry with
    | non =>
      cases rv
      first | exact SeqAt.RcNeAt.str_none z1 t1 | (simp only [eqP];exact SeqAt.RcNeAt.str_none z1 t1)
    | bl b2 =>
      cases rv
      first | exact SeqAt.RcNeAt.str_bool z1 t1 b2 | (simp only [eqP];exact SeqAt.RcNeAt.str_bool z1 t1 b2)
    | int i2 =>
      obtain ⟨t2,rfl⟩:=rv
      first | exact SeqAt.RcNeAt.str_int z1 t1 i2 t2 | (simp only [eqP];exact SeqAt.RcNeAt.str_int z1 t1 i2 t2)
    | str z2 =>
      obtain ⟨t2,rfl⟩:=rv
      first | exact SeqAt.RcNeAt.str_str z1 t1 z2 t2 | (simp only [eqP];exact SeqAt.RcNeAt.str_str z1 t1 z2 t2)
    | @tup a2 xs2 nC h2 r2 =>
      cases rv
      obtain ⟨its2,xT,p2,_⟩:=I.tuple h2
      first | exact SeqAt.RcNeAt.str_tuple z1 t1 (show s.heap.IsTuple a2 its2.toArray from p2) hu0 | (simp only [eqP];exact SeqAt.RcNeAt.str_tuple z1 t1 (show s.heap.IsTuple a2 its2.toArray from p2) hu0)
    | ref _=>simp [aO] at hy
    | ty _=>simp [aO] at hy
  | @tup a1 xs1 wL h1 r1 =>
    cases ru
    obtain ⟨cP,vv1,p1,_⟩:=I.tuple h1
    cases ry with
    | non =>
      cases rv
      first | exact SeqAt.RcNeAt.tuple_none (show s.heap.IsTuple a1 cP.toArray from p1) hu0 | (simp only [eqP];exact SeqAt.RcNeAt.tuple_none (show s.heap.IsTuple a1 cP.toArray from p1) hu0)
    | bl b2 =>
      cases rv
      first | exact SeqAt.RcNeAt.tuple_bool b2 (show s.heap.IsTuple a1 cP.toArray from p1) hu0 | (simp only [eqP];exact SeqAt.RcNeAt.tuple_bool b2 (show s.heap.IsTuple a1 cP.toArray from p1) hu0)
    | int i2 =>
      obtain ⟨t2,rfl⟩:=rv
      first | exact SeqAt.RcNeAt.tuple_int i2 t2 (show s.heap.IsTuple a1 cP.toArray from p1) hu0 | (simp only [eqP];exact SeqAt.RcNeAt.tuple_int i2 t2 (show s.heap.IsTuple a1 cP.toArray from p1) hu0)
    | str z2 =>
      obtain ⟨t2,rfl⟩:=rv
      first | exact SeqAt.RcNeAt.tuple_str z2 t2 (show s.heap.IsTuple a1 cP.toArray from p1) hu0 | (simp only [eqP];exact SeqAt.RcNeAt.tuple_str z2 t2 (show s.heap.IsTuple a1 cP.toArray from p1) hu0)
    | @tup a2 xs2 nC h2 r2 =>
      cases rv
      obtain ⟨its2,xT,p2,_⟩:=I.tuple h2
      have z:=SeqAt.RcNeAt.tuples (e:=o9 wL nC) (show s.heap.IsTuple a1 cP.toArray from p1) (show s.heap.IsTuple a2 its2.toArray from p2) hu0 (qW (n:=n) r1 r2 vv1 xT fun x mx y my v w u t q1 q2 q3 q4 =>
            wK I n A.in1 x y v w u t (qX hu) (List.all_eq_true.mp (by simpa [aO] using hx) x mx) (List.all_eq_true.mp (by simpa [aO] using hy) y my) q1 q2 q3 q4)
      have e:((List.range (min cP.toArray.size its2.toArray.size)).all (o9 wL nC)&&cP.toArray.size == its2.toArray.size)=eqP (.tup wL) (.tup nC):=by
        rw [eqP,gF,List.size_toArray,List.size_toArray,← vv1.length,← xT.length,← r1.length,← r2.length]
      rw [e] at z
      exact z
    | ref _=>simp [aO] at hy
    | ty _=>simp [aO] at hy
  | ref _=>simp [aO] at hx
  | ty _=>simp [aO] at hx
theorem ao8 {pins:List (Addr×Obj)} {σ:St} {H:Hp} {s:Shared} (I:Inv X pins σ H s) (n:Nat) (A:Around) {a1:Addr} {xs:List V} (hl:tE X.K H a1 xs) (y:D) (vy:V) (v:Value) (hu0:A.units < cLine) (hy:aO n y=true) (ry:RD X.K H y vy) (rv:RelV vy v):SeqAt.RcNeAt A s (.ref a1) v true:=by
  obtain ⟨cP,vv1,pl,_⟩:=I.list hl
  have p1:=pl.isList
  cases ry with
  | non =>
    cases rv
    exact SeqAt.RcNeAt.list_none p1 hu0
  | bl b2 =>
    cases rv
    exact SeqAt.RcNeAt.list_bool b2 p1 hu0
  | int i2 =>
    obtain ⟨t2,rfl⟩:=rv
    exact SeqAt.RcNeAt.list_int i2 t2 p1 hu0
  | str z2 =>
    obtain ⟨t2,rfl⟩:=rv
    exact SeqAt.RcNeAt.list_str z2 t2 p1 hu0
  | @tup a2 xs2 nC h2 r2 =>
    cases rv
    obtain ⟨its2,xT,p2,_⟩:=I.tuple h2
    exact SeqAt.RcNeAt.list_tuple (show s.heap.IsList a1 cP.toArray from p1) (show s.heap.IsTuple a2 its2.toArray from p2) hu0
  | ref _=>cases n <;> simp [aO] at hy
  | ty _=>cases n <;> simp [aO] at hy
theorem ao9 {pins:List (Addr×Obj)} {σ:St} {H:Hp} {s:Shared} (I:Inv X pins σ H s) (n:Nat) (A:Around) {a2:Addr} {xs:List V} (hl:tE X.K H a2 xs) (y:D) (vy:V) (v:Value) (hu0:A.units < cLine) (hy:aO n y=true) (ry:RD X.K H y vy) (rv:RelV vy v):SeqAt.RcNeAt A s v (.ref a2) true:=by
  obtain ⟨its2,xT,pl,_⟩:=I.list hl
  have p2:=pl.isList
  cases ry with
  | non =>
    cases rv
    exact SeqAt.RcNeAt.none_list p2 hu0
  | bl b1 =>
    cases rv
    exact SeqAt.RcNeAt.bool_list b1 p2 hu0
  | int i1 =>
    obtain ⟨t1,rfl⟩:=rv
    exact SeqAt.RcNeAt.int_list i1 t1 p2 hu0
  | str z1 =>
    obtain ⟨t1,rfl⟩:=rv
    exact SeqAt.RcNeAt.str_list z1 t1 p2 hu0
  | @tup a1 xs1 wL h1 r1 =>
    cases rv
    obtain ⟨cP,vv1,p1,_⟩:=I.tuple h1
    exact SeqAt.RcNeAt.tuple_list (show s.heap.IsTuple a1 cP.toArray from p1) (show s.heap.IsList a2 its2.toArray from p2) hu0
  | ref _=>cases n <;> simp [aO] at hy
  | ty _=>cases n <;> simp [aO] at hy
theorem aoA {pins:List (Addr×Obj)} {σ:St} {H:Hp} {s:Shared} (I:Inv X pins σ H s) (n:Nat) (A:Around) {a1 a2:Addr} {xs1 xs2:List V} {wL nC:List D} (h1:tE X.K H a1 xs1) (h2:tE X.K H a2 xs2) (r1:bF X.K H wL xs1) (r2:bF X.K H nC xs2)
    (hu:A.units+(n+1) < cLine) (hx:wL.all (aO n)=true) (hy:nC.all (aO n)=true):SeqAt.RcNeAt A s (.ref a1) (.ref a2) (!j4 wL nC):=by
  have hu0:A.units < cLine:=by omega
  obtain ⟨cP,vv1,q1,_⟩:=I.list h1
  obtain ⟨its2,xT,q2,_⟩:=I.list h2
  have p1:=q1.isList
  have p2:=q2.isList
  by_cases hl:wL.length=nC.length
  · have hsz:cP.toArray.size=its2.toArray.size:=by rw [List.size_toArray,List.size_toArray,← vv1.length,← xT.length,← r1.length,← r2.length];exact hl
    have z:=SeqAt.RcNeAt.lists (e:=o9 wL nC) p1 p2 hsz hu0 (qW (n:=n) r1 r2 vv1 xT fun x mx y my v w u t q1 q2 q3 q4 =>
            wK I n A.in1 x y v w u t (qX hu) (List.all_eq_true.mp hx x mx) (List.all_eq_true.mp hy y my) q1 q2 q3 q4)
    have e:(List.range cP.toArray.size).all (o9 wL nC)=j4 wL nC:=by rw [a2E hl,List.size_toArray,← vv1.length,← r1.length]
    rw [e] at z
    exact z
  · have hne:(cP.toArray.size != its2.toArray.size)=true:=by rw [List.size_toArray,List.size_toArray,← vv1.length,← xT.length,← r1.length,← r2.length];simpa using hl
    have e:j4 wL nC=false:=a67 (by simpa using hl)
    rw [e]
    exact SeqAt.RcNeAt.lists_lengths p1 p2 hne hu0
def eqG (G:Gp) (x y:D) (k:Bool→Prop):Prop:=match x,y with
  | .ref a,.ref b=>(match aZ G a,aZ G b with
    | some xs,some ys=>xs.all (aO 20)=true∧ys.all (aO 20)=true∧k (j4 xs ys)
    | _,_=>False)
  | .ref a,y=>(match aZ G a with
    | some _=>aO 20 y=true∧k false
    | none=>False)
  | x,.ref b=>(match aZ G b with
    | some _=>aO 20 x=true∧k false
    | none=>False)
  | x,y=>aO 20 x=true∧aO 20 y=true∧k (eqP x y)
def v7:R3:=fun x y G R=>eqG G x y fun b=>R (.bl b) G
def a82:R3:=fun x y G R=>eqG G x y fun b=>R (.bl (!b)) G
theorem a3X {f:Value→Value→Sem Value} {r3:R3} (h:∀ (pins:List (Addr×Obj)) (s:Shared) (σ:St) (H:Hp) (x y:D) (vx vy:V) (u v:Value) (G:Gp) (R:dG) (Q:VK),Inv X pins σ H s→RD X.K H x vx→RD X.K H y vy→RelV vx u→RelV vy v→HR X.K H G→r3 x y G R →
      (∀ w H' d G',Ts H H'→RD X.K H' d w→HR X.K H' G'→R d G'→Q w H')→wpAny (model X.prog X.w) X.A (f u v) (EP X pins σ Q) X.xe s):qC X f r3 :=
  ⟨fun vx vy H Q=>∃ x y G R,RD X.K H x vx∧RD X.K H y vy∧HR X.K H G∧r3 x y G R∧∀ w H' d G',Ts H H'→RD X.K H' d w→HR X.K H' G'→R d G'→Q w H',
    fun pins s σ H vx vy u v Q I ru rv ⟨x,y,G,R,rx,ry,g,q,k⟩=>h pins s σ H x y vx vy u v G R Q I rx ry ru rv g q k,fun H x y vx vy G R Q rx ry g q k=>⟨x,y,G,R,rx,ry,g,q,k⟩⟩
theorem a9Q (hu:X.A.units+64 < cLine) {neg:Bool} {op:CmpOp} (hop:op=if neg then .NotEq else .Eq) {pins:List (Addr×Obj)} {s:Shared} {σ:St} {H:Hp} {x y:D} {vx vy:V} {u v:Value} {G:Gp} {k:Bool→Prop} {Q:VK} (I:Inv X pins σ H s) (rx:RD X.K H x vx) (ry:RD X.K H y vy) (ru:RelV vx u) (rv:RelV vy v) (g:HR X.K H G)
    (h:eqG G x y k) (hk:∀ b,k b→EP X pins σ Q (.bool (neg ^^ b)) s):wpAny (model X.prog X.w) X.A (compareOp op u v) (EP X pins σ Q) X.xe s:=by
  have fin:∀ {b:Bool},(if neg then SeqAt.RcNeAt X.A s u v (!b) else SeqAt.RcAt X.A s u v b)→k b→wpAny (model X.prog X.w) X.A (compareOp op u v) (EP X pins σ Q) X.xe s:=fun {b} z kb=>by
    have e:=hk b kb
    cases neg with
    | true =>
      subst hop
      rw [Bool.true_xor] at e
      exact z X.prog X.w X.xe _ e
    | false =>
      subst hop
      rw [Bool.false_xor] at e
      exact z X.prog X.w X.xe _ e
  have hu1:X.A.units+(20+1) < cLine:=by omega
  have hu2:X.A.units+(19+1) < cLine:=by omega
  have hu0:X.A.units < cLine:=by omega
  have plain:aO 20 x=true→aO 20 y=true→k (eqP x y)→wpAny (model X.prog X.w) X.A (compareOp op u v) (EP X pins σ Q) X.xe s:=fun hx hy kk=>fin (b:=eqP x y) (by
    cases neg with
    | true=>exact ao7 I 19 X.A x y vx vy u v hu2 hx hy rx ry ru rv
    | false=>exact ayK I 19 X.A x y vx vy u v hu2 hx hy rx ry ru rv) kk
  have left:∀ a xs,x = .ref a→aZ G a=some xs→aO 20 y=true→k false→wpAny (model X.prog X.w) X.A (compareOp op u v) (EP X pins σ Q) X.xe s:=fun a xs e1 e2 hy kk=>by
    subst e1
    cases rx
    cases ru
    obtain ⟨zs,hz,_⟩:=bR g e2
    refine fin (b:=false) ?_ kk
    cases neg with
    | true=>exact ao8 I 20 X.A hz y vy v hu0 hy ry rv
    | false=>exact ayL I 20 X.A hz y vy v hu0 hy ry rv
  have right:∀ a xs,y = .ref a→aZ G a=some xs→aO 20 x=true→k false→wpAny (model X.prog X.w) X.A (compareOp op u v) (EP X pins σ Q) X.xe s:=fun a xs e1 e2 hy kk=>by
    subst e1
    cases ry
    cases rv
    obtain ⟨zs,hz,_⟩:=bR g e2
    refine fin (b:=false) ?_ kk
    cases neg with
    | true=>exact ao9 I 20 X.A hz x vx u hu0 hy rx ru
    | false=>exact ayM I 20 X.A hz x vx u hu0 hy rx ru
  unfold eqG at h
  split at h
  · rename_i a b
    split at h
    · rename_i xs ys e1 e2
      cases rx;cases ry;cases ru;cases rv
      obtain ⟨zs1,hz1,q1⟩:=bR g e1
      obtain ⟨zs2,hz2,q2⟩:=bR g e2
      refine fin (b:=j4 xs ys) ?_ h.2.2
      cases neg with
      | true=>exact aoA I 20 X.A hz1 hz2 q1 q2 hu1 h.1 h.2.1
      | false=>exact ayN I 20 X.A hz1 hz2 q1 q2 hu1 h.1 h.2.1
    · exact h.elim
  · rename_i a _
    split at h
    · rename_i xs e1
      exact left a xs rfl e1 h.1 h.2
    · exact h.elim
  · rename_i b _
    split at h
    · rename_i xs e1
      exact right b xs rfl e1 h.1 h.2
    · exact h.elim
  · exact plain h.1 h.2.1 h.2.2
theorem ayO (hu:X.A.units+64 < cLine):qC X (compareOp .Eq) v7:=a3X fun pins s σ H x y vx vy u v G R Q I rx ry ru rv g q k =>
  a9Q (neg:=false) hu rfl I rx ry ru rv g q fun b kb=>⟨.bl b,H,I,by rw [Bool.false_xor];rfl,k _ H (.bl b) G (.refl H) (.bl b) g kb⟩
theorem ayP (hu:X.A.units+64 < cLine):qC X (compareOp .NotEq) a82:=a3X fun pins s σ H x y vx vy u v G R Q I rx ry ru rv g q k =>
  a9Q (neg:=true) hu rfl I rx ry ru rv g q fun b kb=>⟨.bl (!b),H,I,by rw [Bool.true_xor];rfl,k _ H (.bl (!b)) G (.refl H) (.bl (!b)) g kb⟩
end
end L2
namespace L2
open PySem PySem.Spec PyProof.Rows PySem.W PySem.Calls
open PySem.Builtin PySem.Builtin.ObjectAttr PySem.Builtin.Getset_descriptor
section
variable {prog:Program} {w:World} {A:Around} {E:Value→Shared→Prop} {s:Shared} {K:Fg} {x C:Addr} {o:Obj}
theorem a1E {tp:Value} {R:Result→Shared→Prop} (X:K.In s.heap) (hx:s.heap.get? x=some o) (hc:o.cls = .ref C) (hm:mroIn K C (.type "object")=some true)
    (h:R (.ok (.ret (.ref C))) s):codeAny (model prog w) A (.call (.builtin "getset_descriptor.__get__") ⟨[.builtin "object.__class__",.ref x,tp],[]⟩) R s:=by
  obtain ⟨hh,g,dr,t,os⟩:=s
  have L0:Looks (model prog w) hh (typeOf (.ref x)) (.ref C):=hc ▸ (Looks.ld hx).andThen .now
  have L1:=looks_mroIn (M:=model prog w) X hm
  refine codeAny_call_builtin KF.slot_gs.plain KF.entry_gs (KF.slot_gs.check _ _ _ _ _ _ _ _ KF.type_class (KF.args_gs _ _ _) ?_)
  unfold Builtin.«getset_descriptor.__get__» descrGet
  rw [dga_obj]
  refine wpAny_bind (wpAny_pure ?_)
  unfold descrGetter descrCheckInstance descrNameAndClass isInstance
  simp only [KF.owner_class]
  repeat lk
  refine ⟨Code.quiet_builtin _ (by decide +kernel),codeAny_builtin KF.entry_class ?_⟩
  unfold Builtin.«object.__class__» shownTypeOf
  repeat lk
  exact h
theorem abR {Q:Option Value→Shared→Prop} (X:K.In s.heap) (hx:s.heap.get? x=some o) (hc:o.cls = .ref C)
    (hga:findIn K (.ref C) "__getattribute__" = some (some (.builtin "BaseException.__getattribute__"))) (hgn:findIn K (.ref C) "__getattr__" = some none) (ha:findIn K (.ref C) "__class__" = some (some (.builtin "object.__class__")))
    (hb:subIn K (.ref C) (.type "BaseException")=some true) (hm:mroIn K C (.type "object")=some true) (h:Q (some (.ref C)) { s with toks:=s.toks+1 }):wpAny (model prog w) A (getAttr? (.ref x) "__class__") Q E s:=by
  obtain ⟨hh,g,d,t,os⟩:=s
  have L0:Looks (model prog w) hh (typeOf (.ref x)) (.ref C):=hc ▸ (Looks.ld hx).andThen .now
  have L1:=looks_findIn (M:=model prog w) X hga
  have L2':=looks_findIn (M:=model prog w) X hgn
  have L3:=looks_findIn (M:=model prog w) X ha
  have L4:=looks_subIn (M:=model prog w) X hb
  unfold getAttr? getAttrBy? getAttrBy
  refine wpAny_bind (wpAny_mkText (wpAny_bind (wpAny_attempt (wpAny_holding (wpAny_bind (L0.at (wpAny_bind (L1.at ?_))))))))
  have hx2:(Value.builtin "BaseException.__getattribute__" == Value.builtin "object.__getattribute__")=false:=by decide +kernel
  have f3:=PySem.F.attr_ValueError.ga.bind (.ref x)
  have hk:builtinKind "BaseException.__getattribute__" = some .slot:=by decide +kernel
  have hsplit:splitId "BaseException.__getattribute__" = some ("BaseException", "__getattribute__"):=by decide +kernel
  have ha2:=PySem.F.args_bexc_ga (.ref x) (.str "__class__" t)
  repeat (first | with_reducible refine L0.at ?_ | with_reducible refine L1.at ?_ | with_reducible refine L2'.at ?_ | with_reducible refine L3.at ?_ | with_reducible refine L4.at ?_ | wp_step)
  refine codeAny_call_builtin PySem.F.attr_ValueError.ga.plain PySem.F.entry_bexc_ga ?_
  simp only [checkBuiltinCall,hk,hsplit]
  unfold isInstance
  have f5:=PySem.F.typeOf_object_class
  have f6:=PySem.F.slot_gs_get.lookup
  have f7:=PySem.F.slot_gs_set.lookup
  repeat (any_goals (first | assumption | with_reducible refine L0.at ?_ | with_reducible refine L1.at ?_ | with_reducible refine L2'.at ?_ | with_reducible refine L3.at ?_ | with_reducible refine L4.at ?_ | wp_step))
  refine a1E X hx hc hm ?_
  repeat (any_goals (first | assumption | wp_step))
end
end L2
namespace L2
open PySem PySem.Spec PyProof.Rows
section
variable {X:Cx} {x:Str} {p pos:Pos} {e o:Expr} {es:List Expr} {t:lO} {to:bL} {id T:String} {r3:List D→Gp→dG→Prop}
def dB (X:Cx) (f:Value) (r3:List D→Gp→dG→Prop):Prop :=
  ∀ (pins:List (Addr×Obj)) (s:Shared) (σ:St) (H:Hp) (xs:List D) (vs:List V) (us:List Value) (G:Gp) (R:dG) (Q:VK),Inv X pins σ H s→bF X.K H xs vs→Vals vs us→HR X.K H G→r3 xs G R →
    (∀ v H' d G',Ts H H'→RD X.K H' d v→HR X.K H' G'→R d G'→Q v H')→wpAny (model X.prog X.w) X.A (call f us) (EP X pins σ Q) X.xe s
theorem dB.of {f:Value} {r:List V→Hp→VK→Prop} (h:qG X f r) (i:∀ (H:Hp) (xs:List D) (vs:List V) (G:Gp) (R:dG) (Q:VK),bF X.K H xs vs→HR X.K H G→r3 xs G R →
    (∀ v H' d G',Ts H H'→RD X.K H' d v→HR X.K H' G'→R d G'→Q v H')→r vs H fun v H'=>KF X.K H'→Q v H'):dB X f r3:=fun pins s σ H xs vs us G R Q I rx rv g q k =>
  cD (h pins s σ H vs us _ I rv (i H xs vs G R Q rx g q k)) fun _ _ ⟨v,H',I',r,q'⟩=>⟨v,H',I',r,q' (qP I')⟩
def qY (r3:List D→Gp→dG→Prop) (t:lO):bL:=fun ρ G R=>t ρ G fun xs G1=>r3 xs G1 R
theorem a9R (hc:dB X (.builtin id) r3) (hg:Gl X x) (hm:X.mg x=none) (hv:bootBuiltins x=some (.builtin id)) (ha:PA3 X (e :: es) t) (hn:x ≠ "__name__" := by decide) (hdb:(x == ("__debug__" : Str))=false:=by decide)
    (he:starEach (e :: es) X.env=(false,eval e X.env) :: starEach es X.env:=by rfl) (hpl:(backTo pos (starEach es X.env)).any (·.1)=false:=by rfl):bV X (.Call (.Name x p) (e :: es) [] pos) (qY r3 t):=by
  intro pins s σ H Q I h _tk
  obtain ⟨ρ,G,R,sr,g,q,kk⟩:=h
  refine wpAny_Call_Name_kw (yR I hg hm hv ?_ hn hdb)
  exact PyProof.Rows.callWith_builtin1 (cD (ha pos pins s σ H (fun vs H1=>Ts H H1∧∃ ds G1,bF X.K H1 ds vs∧HR X.K H1 G1∧r3 ds G1 R) I ⟨ρ,G,_,sr,g,q,fun vs H1 ds G1 t1 r1 g1 q1=>⟨t1,ds,G1,r1,g1,q1⟩⟩) fun us s1 ⟨vs,H1,I1,r,t1,ds,G1,r1,g1,q1⟩ =>
    hc pins s1 σ H1 ds vs us G1 R Q I1 r1 r g1 q1 fun v H' d G' t2=>kk v H' d G' (t1.trans t2)) he hpl
theorem adW (hc:dB X (.type T) r3) (hg:Gl X x) (hm:X.mg x=none) (hv:bootBuiltins x=some (.type T)) (ha:PA3 X (e :: es) t) (hn:x ≠ "__name__" := by decide) (hdb:(x == ("__debug__" : Str))=false:=by decide)
    (he:starEach (e :: es) X.env=(false,eval e X.env) :: starEach es X.env:=by rfl) (hpl:(backTo pos (starEach es X.env)).any (·.1)=false:=by rfl):bV X (.Call (.Name x p) (e :: es) [] pos) (qY r3 t):=by
  intro pins s σ H Q I h _tk
  obtain ⟨ρ,G,R,sr,g,q,kk⟩:=h
  refine wpAny_Call_Name_kw (yR I hg hm hv ?_ hn hdb)
  exact PyProof.Rows.callWith_type1 (cD (ha pos pins s σ H (fun vs H1=>Ts H H1∧∃ ds G1,bF X.K H1 ds vs∧HR X.K H1 G1∧r3 ds G1 R) I ⟨ρ,G,_,sr,g,q,fun vs H1 ds G1 t1 r1 g1 q1=>⟨t1,ds,G1,r1,g1,q1⟩⟩) fun us s1 ⟨vs,H1,I1,r,t1,ds,G1,r1,g1,q1⟩ =>
    hc pins s1 σ H1 ds vs us G1 R Q I1 r1 r g1 q1 fun v H' d G' t2=>kk v H' d G' (t1.trans t2)) he hpl
def tL:List D→Gp→dG→Prop:=fun xs G R=>match xs with
  | [.str z]=>z.length≤sizeLine∧R (.int z.length) G
  | [.tup ds]=>R (.int ds.length) G
  | [.ref q]=>(match aZ G q with
    | some ds=>R (.int ds.length) G
    | none=>False)
  | _=>False
theorem au9:dB X (.builtin "len") tL:=dB.of (a3Q.or a3R) fun H xs vs G R Q rx g q k=>by
  cases rx with
  | nil=>exact False.elim q
  | cons r rr =>
    cases rr with
    | cons _ _=>cases r <;> exact False.elim q
    | nil =>
      cases r with
      | str z=>exact .inr ⟨z,rfl,q.1,fun _=>k _ H _ G (.refl H) (.int _) g q.2⟩
      | @tup a xs ds ha ra=>exact .inl ⟨a,xs,rfl,.inr ha,fun _=>by rw [← ra.length];exact k _ H _ G (.refl H) (.int _) g q⟩
      | ref a =>
        have q':(match aZ G a with
          | some ds=>R (.int ds.length) G
          | none=>False):=q
        split at q'
        · rename_i ds e1
          obtain ⟨xs,h1,r1⟩:=bR g e1
          exact .inl ⟨a,xs,rfl,.inl h1,fun _=>by rw [← r1.length];exact k _ H _ G (.refl H) (.int _) g q'⟩
        · exact q'.elim
      | _=>exact False.elim q
def a9S:List D→Gp→dG→Prop:=fun xs G R=>match xs with
  | [.int i]=>R (.int i) G
  | [.bl b]=>R (.int (if b then 1 else 0)) G
  | _=>False
theorem auA:dB X (.type "int") a9S:=dB.of abE fun H xs vs G R Q rx g q k=>by
  cases rx with
  | nil=>exact False.elim q
  | cons r rr =>
    cases rr with
    | cons _ _=>cases r <;> exact False.elim q
    | nil =>
      cases r with
      | int i=>exact .inl ⟨i,rfl,fun _=>k _ H _ G (.refl H) (.int _) g q⟩
      | bl b=>exact .inr ⟨b,rfl,fun _=>k _ H _ G (.refl H) (.int _) g q⟩
      | _=>exact False.elim q
def zL:List D→Gp→dG→Prop:=fun xs G R=>match xs with
  | [.tup ds]=>∀ l,G l=none→R (.ref l) (aL G l (.lst ds))
  | [.ref q]=>(match aZ G q with
    | some ds=>∀ l,G l=none→R (.ref l) (aL G l (.lst ds))
    | none=>False)
  | _=>False
theorem aoB:dB X (.type "list") zL:=dB.of a3S fun H xs vs G R Q rx g q k=>by
  cases rx with
  | nil=>exact False.elim q
  | cons r rr =>
    cases rr with
    | cons _ _=>cases r <;> exact False.elim q
    | nil =>
      cases r with
      | @tup a xs ds ha ra =>
        refine ⟨a,xs,rfl,.inr ha,fun l hl kf=>?_⟩
        have sn:Same H (upd H l (.lst xs)):=aW hl
        exact k _ _ _ _ (.same sn) (.ref l) (g.put (u := .lst ds) hl ⟨_,aD,ra.mono (.same sn)⟩) (q l (gC g hl kf))
      | ref a =>
        have q':(match aZ G a with
          | some ds=>∀ l,G l=none→R (.ref l) (aL G l (.lst ds))
          | none=>False):=q
        split at q'
        · rename_i ds e1
          obtain ⟨xs,h1,r1⟩:=bR g e1
          refine ⟨a,xs,rfl,.inl h1,fun l hl kf=>?_⟩
          have sn:Same H (upd H l (.lst xs)):=aW hl
          exact k _ _ _ _ (.same sn) (.ref l) (g.put (u := .lst ds) hl ⟨_,aD,r1.mono (.same sn)⟩) (q' l (gC g hl kf))
        · exact q'.elim
      | _=>exact False.elim q
def tyD (G:Gp):D→Option String
  | .non=>some "NoneType"
  | .bl _=>some "bool"
  | .int _=>some "int"
  | .str _=>some "str"
  | .tup _=>some "tuple"
  | .ref q=>(match G q with
    | some (.lst _)=>some "list"
    | some (.rol _)=>some "list"
    | some (.iI _ _)=>some "dict"
    | _=>none)
  | .ty _=>none
def exD (G:Gp):D→Option Addr
  | .ref q=>(match G q with
    | some (.exn C)=>some C
    | _=>none)
  | _=>none
def subB (T n:String):Bool:=T == n || (T == "bool" && n == "int")
def auB:List String:=["NoneType", "bool", "int", "str", "list", "tuple", "dict"]
def a3Y:List String:=["int", "bool", "str", "list", "tuple", "dict", "ValueError"]
theorem aoD:∀ T∈auB,∀ n∈a3Y,PySem.W.kitOne [] (.type T) (.type n)=some (subB T n):=by decide +kernel
theorem j5 (K:Fg) {T n:String} (h1:T∈auB) (h2:n∈a3Y):PySem.W.kitOne K (.type T) (.type n)=some (subB T n):=aoD T h1 n h2
structure ExC (K:Fg) (C:Addr):Prop where
  ga:PySem.W.findIn K (.ref C) "__getattribute__" = some (some (.builtin "BaseException.__getattribute__"))
  gn:PySem.W.findIn K (.ref C) "__getattr__" = some none
  cl:PySem.W.findIn K (.ref C) "__class__" = some (some (.builtin "object.__class__"))
  be:PySem.W.subIn K (.ref C) (.type "BaseException")=some true
  ob:PySem.W.mroIn K C (.type "object")=some true
  cs:(PySem.W.clsIn K C).isSome=true
theorem adX {K:Fg} {a C:Addr} (c:ExC K C):PySem.W.KitX K (.ref a) (.ref C) (a5V C a) where
  ty:=fun M h X ⟨o,vs,h1,h2,_⟩=>h2 ▸ (PySem.W.Looks.ld h1).andThen .now
  it:=fun M h X _=>by
    intro A' Q' E' s' k q
    cases eK:PySem.W.clsIn K C with
    | none=>have:=c.cs;rw [eK] at this;cases this
    | some cd =>
      unfold PySem.W.clsIn at eK
      split at eK
      · rename_i ho
        unfold isType loadHead
        exact wpAny_bind (wpAny_loadPart (k _ _ (X _ _ ho)) (wpAny_pure q))
      · cases eK
  ne:=fun h tp dd its n sl X htp=>by
    refine Bool.eq_false_iff.mpr fun q=>?_
    have e:C=tp:=Value.ref.inj (beq_iff_eq.mp q)
    subst e
    cases eK:PySem.W.clsIn K C with
    | none=>have:=c.cs;rw [eK] at this;cases this
    | some cd =>
      unfold PySem.W.clsIn at eK
      split at eK
      · rename_i ho
        have z:=(X _ _ ho).symm.trans htp
        cases z
      · cases eK
  ca:=fun X ⟨o,vs,h1,h2,_⟩ k=>abR X h1 h2 c.ga c.gn c.cl c.be c.ob k
def cB (K:Fg):List D→Gp→dG→Prop:=fun xs G R=>match xs with
  | [x,.ty n]=>(match tyD G x with
    | some T=>n∈a3Y∧R (.bl (subB T n)) G
    | none=>(match exD G x with
      | some C=>∃ b,ExC K C∧PySem.W.kitOne K (.ref C) (.type n)=some b∧R (.bl b) G
      | none=>False))
  | [x,.ref C']=>(match exD G x with
    | some C=>∃ b,ExC K C∧PySem.W.kitOne K (.ref C) (.ref C')=some b∧R (.bl b) G
    | none=>False)
  | _=>False
theorem adY {G:Gp} {x:D} {C:Addr} (h:exD G x=some C):∃ a,x = .ref a∧G a=some (.exn C):=by
  cases x with
  | ref q =>
    refine ⟨q,rfl,?_⟩
    have h':(match G q with
      | some (.exn C)=>some C
      | _=>none)=some C:=h
    split at h'
    · rename_i e1;cases h';exact e1
    · cases h'
  | _=>cases h
theorem a3Z {pins:List (Addr×Obj)} {s:Shared} {σ:St} {H:Hp} {a C:Addr} {c:Value} {b:Bool} {G:Gp} {R:dG} {Q:VK} (I:Inv X pins σ H s) (g:HR X.K H G) (e:G a=some (.exn C)) (hc:ExC X.K C) (hk:PySem.W.kitOne X.K (.ref C) c=some b) (q:R (.bl b) G)
    (k:∀ v H' d G',Ts H H'→RD X.K H' d v→HR X.K H' G'→R d G'→Q v H'):wpAny (model X.prog X.w) X.A (call (.builtin "isinstance") [.ref a,c]) (EP X pins σ Q) X.xe s:=by
  obtain ⟨o0,vs0,z,_⟩:=g a _ e
  obtain ⟨_,z1,_,_⟩:=I.hok a _ z
  exact PySem.W.kia_one (adX hc) I.yP z1 hk (fun z=>nomatch z) fun tk=>⟨.bl b,H,I.tok tk,rfl,k _ H _ G (.refl H) (.bl b) g q⟩
theorem aoF {pins:List (Addr×Obj)} {s:Shared} {σ:St} {H:Hp} {x:D} {vx:V} {u:Value} {T n:String} {G:Gp} {R:dG} {Q:VK} (I:Inv X pins σ H s) (rx:RD X.K H x vx) (ru:RelV vx u) (g:HR X.K H G) (e:tyD G x=some T) (hn:n∈a3Y) (q:R (.bl (subB T n)) G)
    (k:∀ v H' d G',Ts H H'→RD X.K H' d v→HR X.K H' G'→R d G'→Q v H'):wpAny (model X.prog X.w) X.A (call (.builtin "isinstance") [u,.type n]) (EP X pins σ Q) X.xe s:=by
  have fin:∀ tk,EP X pins σ Q (.bool (subB T n)) { s with toks:=tk }:=fun tk=>⟨.bl _,H,I.tok tk,rfl,k _ H _ G (.refl H) (.bl _) g q⟩
  cases rx with
  | non=>cases ru;cases e;exact PySem.W.kia_one PySem.W.kitx_none I.yP True.intro (j5 _ (by decide) hn) (fun z=>nomatch z) fin
  | bl b=>cases ru;cases e;exact PySem.W.kia_one PySem.W.kitx_bool I.yP True.intro (j5 _ (by decide) hn) (fun z=>nomatch z) fin
  | int i=>obtain ⟨t,rfl⟩:=ru;cases e;exact PySem.W.kia_one PySem.W.kitx_int I.yP True.intro (j5 _ (by decide) hn) (fun z=>nomatch z) fin
  | str i=>obtain ⟨t,rfl⟩:=ru;cases e;exact PySem.W.kia_one PySem.W.kitx_str I.yP True.intro (j5 _ (by decide) hn) (fun z=>nomatch z) fin
  | ty n=>cases e
  | @tup a xs ds ha ra =>
    cases ru;cases e
    obtain ⟨its,_,p,_⟩:=I.tuple ha
    obtain ⟨o,h1,h2,_⟩:=p
    exact PySem.W.kia_one PySem.W.kitx_tuple I.yP ⟨o,h1,h2⟩ (j5 _ (by decide) hn) (fun z=>nomatch z) fin
  | ref a =>
    cases ru
    have e':(match G a with
      | some (.lst _)=>some "list"
      | some (.rol _)=>some "list"
      | some (.iI _ _)=>some "dict"
      | _=>none)=some T:=e
    split at e'
    · rename_i ds e1
      cases e'
      obtain ⟨xs,h1,_⟩:=bR g (show aZ G a=some ds by unfold aZ;rw [e1])
      obtain ⟨its,_,p,_⟩:=I.list h1
      obtain ⟨o,n',h1,h2,_⟩:=p
      exact PySem.W.kia_one PySem.W.kitx_list I.yP ⟨o,h1,h2⟩ (j5 _ (by decide) hn) (fun z=>nomatch z) fin
    · rename_i ds e1
      cases e'
      obtain ⟨xs,h1,_⟩:=bR g (show aZ G a=some ds by unfold aZ;rw [e1])
      obtain ⟨its,_,p,_⟩:=I.list h1
      obtain ⟨o,n',h1,h2,_⟩:=p
      exact PySem.W.kia_one PySem.W.kitx_list I.yP ⟨o,h1,h2⟩ (j5 _ (by decide) hn) (fun z=>nomatch z) fin
    · rename_i kvs e1
      cases e'
      rcases g a _ e1 with ⟨_,xs,h1,_⟩ | ⟨_,xs,h1,_⟩
      · obtain ⟨_,_,vs,_,o,es,ep,h1,h2,_⟩:=I.hok a _ h1
        exact PySem.W.kia_one PySem.W.kitx_dict I.yP ⟨o,h1,h2.1⟩ (j5 _ (by decide) hn) (fun z=>nomatch z) fin
      · obtain ⟨_,_,xs,_,o,es,ep,h1,h2,_⟩:=I.hok a _ h1
        exact PySem.W.kia_one PySem.W.kitx_dict I.yP ⟨o,h1,h2.1⟩ (j5 _ (by decide) hn) (fun z=>nomatch z) fin
    · cases e'
theorem a4A:dB X (.builtin "isinstance") (cB X.K):=by
  intro pins s σ H xs vs us G R Q I rx rv g q k
  cases rx with
  | nil=>exact False.elim q
  | @cons x v ds ws r1 rr =>
    cases rr with
    | nil=>cases r1 <;> exact False.elim q
    | @cons y v2 nC ws2 r2 rr2 =>
      cases rr2 with
      | cons _ _=>cases r2 <;> exact False.elim q
      | nil =>
        obtain ⟨u1,u2,rfl,ru1,ru2⟩:=vals2 rv
        cases r2 with
        | ty n =>
          cases ru2
          have q':(match tyD G x with
            | some T=>n∈a3Y∧R (.bl (subB T n)) G
            | none=>(match exD G x with
              | some C=>∃ b,ExC X.K C∧PySem.W.kitOne X.K (.ref C) (.type n)=some b∧R (.bl b) G
              | none=>False)):=q
          split at q'
          · rename_i T eT
            exact aoF I r1 ru1 g eT q'.1 q'.2 k
          · split at q'
            · rename_i C eC
              obtain ⟨a,rfl,ea⟩:=adY eC
              obtain ⟨b,hc,hk,q'⟩:=q'
              cases r1;cases ru1
              exact a3Z I g ea hc hk q' k
            · exact q'.elim
        | ref C' =>
          cases ru2
          have q':(match exD G x with
            | some C=>∃ b,ExC X.K C∧PySem.W.kitOne X.K (.ref C) (.ref C')=some b∧R (.bl b) G
            | none=>False):=q
          split at q'
          · rename_i C eC
            obtain ⟨a,rfl,ea⟩:=adY eC
            obtain ⟨b,hc,hk,q'⟩:=q'
            cases r1;cases ru1
            exact a3Z I g ea hc hk q' k
          · exact q'.elim
        | _=>exact False.elim q
end
end L2
namespace L2
open PySem PySem.Spec PyProof.Rows
theorem zM {K:Fg} {H:Hp} {x:D} {vx:V} (hx:scD x=true) (rx:RD K H x vx):∀ {ys:List D} {vs:List V},bF K H ys vs→ys.all scD=true→vs.any (fun y=>eqV y vx)=ys.any (fun y=>eqP y x)
  | _,_,.nil,_=>rfl
  | _,_,.cons h r,hs=>by
    rw [List.all_cons,Bool.and_eq_true] at hs
    rw [List.any_cons,List.any_cons,zM hx rx r hs.2]
    congr 1
    obtain ⟨h1,_⟩:=hs
    cases rx <;> cases h <;> first | (simp [eqV,eqP];done) | cases hx | cases h1
theorem v8 {K:Fg} {H:Hp} {x:D} {vx:V} (hx:scD x=true) (rx:RD K H x vx):pI vx=true:=by cases rx <;> first | rfl | cases hx
theorem qZ {K:Fg} {H:Hp}:∀ {ys:List D} {vs:List V},bF K H ys vs→ys.all scD=true→vs.all pI=true
  | _,_,.nil,_=>rfl
  | _,_,.cons h r,hs=>by
    rw [List.all_cons,Bool.and_eq_true] at hs
    rw [List.all_cons,v8 hs.1 h,qZ r hs.2];rfl
def inG (G:Gp) (x y:D) (k:Bool→Prop):Prop:=match x,y with
  | .str i,.str j=>k (!(Builtin.Str.occurrences j i 0 j.length 1).isEmpty)
  | x,.tup ys=>scD x=true∧ys.all scD=true∧k (ys.any fun y=>eqP y x)
  | x,.ref p=>(match aZ G p with
    | some ys=>scD x=true∧ys.all scD=true∧k (ys.any fun y=>eqP y x)
    | none=>False)
  | _,_=>False
def auC:R3:=fun x y G R=>inG G x y fun b=>R (.bl b) G
def xZ:R3:=fun x y G R=>inG G x y fun b=>R (.bl (!b)) G
section
variable {X:Cx}
theorem ayS (hu:X.A.units+64 < cLine):qC X (compareOp .In) auC:=by
  refine ⟨_,abD.or abI,fun H x y vx vy G R Q rx ry g h k=>?_⟩
  have h':inG G x y fun b=>R (.bl b) G:=h
  unfold inG at h'
  split at h'
  · cases rx;cases ry
    exact .inl ⟨_,_,rfl,rfl,k _ H _ G (.refl H) (.bl _) g h'⟩
  · cases ry with
    | @tup a xs ds ha ra =>
      refine .inr ⟨a,xs,rfl,.inr ha,v8 h'.1 rx,qZ ra h'.2.1,?_⟩
      have e:inV vx xs=_:=zM h'.1 rx ra h'.2.1
      simp only [Bool.false_eq_true,if_false]
      rw [e]
      exact k _ H _ G (.refl H) (.bl _) g h'.2.2
  · cases ry
    split at h'
    · rename_i ys e1
      obtain ⟨xs,hq,ra⟩:=bR g e1
      refine .inr ⟨_,xs,rfl,.inl hq,v8 h'.1 rx,qZ ra h'.2.1,?_⟩
      have e:inV vx xs=_:=zM h'.1 rx ra h'.2.1
      simp only [Bool.false_eq_true,if_false]
      rw [e]
      exact k _ H _ G (.refl H) (.bl _) g h'.2.2
    · exact h'.elim
  · exact h'.elim
theorem aiL (hu:X.A.units+64 < cLine):qC X (compareOp .NotIn) xZ:=by
  refine ⟨_,a3K.or a3P,fun H x y vx vy G R Q rx ry g h k=>?_⟩
  have h':inG G x y fun b=>R (.bl (!b)) G:=h
  unfold inG at h'
  split at h'
  · cases rx;cases ry
    exact .inl ⟨_,_,rfl,rfl,k _ H _ G (.refl H) (.bl _) g h'⟩
  · cases ry with
    | @tup a xs ds ha ra =>
      refine .inr ⟨a,xs,rfl,.inr ha,v8 h'.1 rx,qZ ra h'.2.1,?_⟩
      have e:inV vx xs=_:=zM h'.1 rx ra h'.2.1
      simp only [if_true]
      rw [e]
      exact k _ H _ G (.refl H) (.bl _) g h'.2.2
  · cases ry
    split at h'
    · rename_i ys e1
      obtain ⟨xs,hq,ra⟩:=bR g e1
      refine .inr ⟨_,xs,rfl,.inl hq,v8 h'.1 rx,qZ ra h'.2.1,?_⟩
      have e:inV vx xs=_:=zM h'.1 rx ra h'.2.1
      simp only [if_true]
      rw [e]
      exact k _ H _ G (.refl H) (.bl _) g h'.2.2
    · exact h'.elim
  · exact h'.elim
def adZ (x:D) (lo hi:Option Int) (G:Gp) (R:dG):Prop:=match x with
  | .tup xs=>¬ (HT.fZ xs.length 0 lo=0∧HT.fZ xs.length xs.length hi=xs.length)∧R (.tup (cutD xs lo hi)) G
  | .str z=>z.length≤sizeLine∧R (.str (Txt.slice z lo hi)) G
  | .ref p=>(match aZ G p with
    | some xs=>∀ q,G q=none→R (.ref q) (aL G q (.lst (cutD xs lo hi)))
    | none=>False)
  | _=>False
theorem aoG:SlR X (fun x lo hi H Q=>∃ z,x = .str z∧z.length≤sizeLine∧Q (.str (Txt.slice z lo hi)) H):=by
  intro pins s σ H x v vl vu lo hi sl Q I rx hs pl pu h
  obtain ⟨z,rfl,hz,q⟩:=h
  obtain ⟨t,rfl⟩:=rx
  refine ⟨"str",_,F.slot_str_getitem.lookup,typeIs_str _ _ _,?_⟩
  have fin:∀ t' k,EP X pins σ Q (.str (Txt.slice z lo hi) t') { s with toks:=k }:=fun t' k=>⟨.str _,H,I.tok k,⟨t',rfl⟩,q⟩
  cases pl with
  | none =>
    cases pu with
    | none=>exact wpAny_getItem_str_slice (l:=none) (u:=none) (st:=none) hs rfl (post_val_or_str ⟨Nat.le_trans (Txt.slice_le z _ _) hz,fin⟩)
    | int j uj=>exact wpAny_getItem_str_slice (l:=none) (u:=some (j,uj)) (st:=none) hs rfl (post_val_or_str ⟨Nat.le_trans (Txt.slice_le z _ _) hz,fin⟩)
  | int i ui =>
    cases pu with
    | none=>exact wpAny_getItem_str_slice (l:=some (i,ui)) (u:=none) (st:=none) hs rfl (post_val_or_str ⟨Nat.le_trans (Txt.slice_le z _ _) hz,fin⟩)
    | int j uj=>exact wpAny_getItem_str_slice (l:=some (i,ui)) (u:=some (j,uj)) (st:=none) hs rfl (post_val_or_str ⟨Nat.le_trans (Txt.slice_le z _ _) hz,fin⟩)
theorem ae0 {K:Fg} {H:Hp} {ds:List D} {xs:List V} (r:bF K H ds xs) (lo hi:Option Int):bF K H (cutD ds lo hi) (a1A xs lo hi):=by
  unfold cutD a1A
  rw [r.length]
  exact (r.drop _).take _
def sG (te:bL) (tl th:TO3):bL:=fun ρ G R=>te ρ G fun x G1=>tl ρ G1 fun lo G2=>th ρ G2 fun hi G3=>adZ x lo hi G3 R
theorem aiM {e:Expr} {te:bL} {lo hi:Option Expr} {tl th:TO3} {p2 pos:Pos} (he:bV X e te) (hl:PO3 X lo tl) (hu:PO3 X hi th):bV X (.Subscript e (.Slice lo hi none p2) pos) (sG te tl th):=by
  refine PE.imp (PE.kf (adB (ahV.or (anA.or aoG)) he hl hu)) fun σ H Q h=>?_
  obtain ⟨ρ,G,R,s,g,q,k⟩:=h
  refine ⟨ρ,G,_,s,g,q,fun vx H1 x G1 t1 rx g1 q1=>?_⟩
  refine ⟨ρ,G1,_,s.mono t1,g1,q1,fun l H2 G2 t2 g2 q2=>?_⟩
  refine ⟨ρ,G2,_,s.mono (t1.trans t2),g2,q2,fun u H3 G3 t3 g3 q3=>?_⟩
  have rx3:=rx.mono (t2.trans t3)
  have tt:=(t1.trans t2).trans t3
  cases rx3 with
  | @tup a xs ds ha ra =>
    refine .inr (.inl ⟨a,xs,rfl,ha,by rw [← ra.length];exact q3.1,fun p hp _=>?_⟩)
    have sn:Same H3 (upd H3 p (.tup (a1A xs l u))):=aW hp
    exact k _ _ _ G3 (tt.trans (.same sn)) (.tup (pF.of aD) ((ae0 ra l u).mono (.same sn)) (ai5 aD)) (g3.same sn) q3.2
  | str z=>exact .inr (.inr ⟨z,rfl,q3.1,fun _=>k _ H3 _ G3 tt (.str _) g3 q3.2⟩)
  | ref p =>
    have q3':(match aZ G3 p with
      | some xs=>∀ q,G3 q=none→R (.ref q) (aL G3 q (.lst (cutD xs l u)))
      | none=>False):=q3
    split at q3'
    · rename_i ds e1
      obtain ⟨xs,hq,ra⟩:=bR g3 e1
      refine .inl ⟨p,xs,rfl,hq,fun b hb kf=>?_⟩
      have sn:Same H3 (upd H3 b (.lst (a1A xs l u))):=aW hb
      exact k _ _ _ _ (tt.trans (.same sn)) (.ref b) (g3.put (u := .lst (cutD ds l u)) hb ⟨_,aD,(ae0 ra l u).mono (.same sn)⟩) (q3' b (gC g3 hb kf))
    · exact q3'.elim
  | _=>exact False.elim q3
def a1F (T:String) (G:Gp):D→Prop
  | .str _=>T = "str"
  | .ref p=>T = "list" ∧ (aZ G p).isSome=true
  | _=>False
theorem a83 {K:Fg} {H:Hp} {G:Gp} {T:String} {x:D} {v:V} (g:HR K H G) (r:RD K H x v) (h:a1F T G x):tyV K T v H:=by
  cases r with
  | str z=>exact h
  | ref p =>
    obtain ⟨rfl,h⟩:=h
    obtain ⟨ds,e⟩:=Option.isSome_iff_exists.mp h
    obtain ⟨xs,hq,_⟩:=bR g e
    exact .inl ⟨rfl,xs,hq⟩
  | _=>exact False.elim h
abbrev xU:=D→List D→Gp→dG→Prop
def rA (X:Cx) (id:String) (r3:xU):Prop :=
  ∀ (pins:List (Addr×Obj)) (s:Shared) (σ:St) (H:Hp) (x:D) (xs:List D) (vx:V) (vs:List V) (u:Value) (us:List Value) (G:Gp) (R:dG) (Q:VK),Inv X pins σ H s→RD X.K H x vx→bF X.K H xs vs→RelV vx u→Vals vs us→HR X.K H G→r3 x xs G R →
    (∀ v H' d G',Ts H H'→RD X.K H' d v→HR X.K H' G'→R d G'→Q v H')→wpAny (model X.prog X.w) X.A (call (.builtin id) (u :: us)) (EP X pins σ Q) X.xe s
theorem rA.of {id:String} {r:V→List V→Hp→VK→Prop} {r3:xU} (h:MtR X id r) (i:∀ (H:Hp) (x:D) (xs:List D) (vx:V) (vs:List V) (G:Gp) (R:dG) (Q:VK),RD X.K H x vx→bF X.K H xs vs→HR X.K H G→r3 x xs G R →
    (∀ v H' d G',Ts H H'→RD X.K H' d v→HR X.K H' G'→R d G'→Q v H')→r vx vs H fun v H'=>KF X.K H'→Q v H'):rA X id r3:=fun pins s σ H x xs vx vs u us G R Q I rx rs ru rv g q k =>
  cD (h pins s σ H vx vs u us _ I ru rv (i H x xs vx vs G R Q rx rs g q k)) fun _ _ ⟨v,H',I',r,q'⟩=>⟨v,H',I',r,q' (qP I')⟩
def tM3 (T:String) (r:xU) (to:bL) (t:lO):bL:=fun ρ G R=>to ρ G fun x G1=>a1F T G1 x∧t ρ G1 fun xs G2=>r x xs G2 R
def aoH (T:String) (r:xU) (to:bL):bL:=fun ρ G R=>to ρ G fun x G1=>a1F T G1 x∧r x [] G1 R
theorem a84 {o e:Expr} {es:List Expr} {to:bL} {t:lO} {name:Str} {apos cpos:Pos} {T id:String} {r3:xU} (pa:PlainAttrs T) (slot:Slot T name id) (hty:typeOf (.builtin id)=pure (.type "method_descriptor")) (hm:rA X id r3) (ho:bV X o to) (ha:PA3 X (e :: es) t)
    (hbase:attributeBase o name X.env (eval o X.env)=eval o X.env:=by rfl)
    (hfew:((backTo cpos (starEach (e :: es) X.env)).all (fun x=>!x.1)&&(backToKw cpos (keywordEach [] X.env)).all (fun x=>x.1.isSome)
      && decide ((e :: es).length+([]:List Keyword).length+(if ([]:List Keyword).isEmpty then 0 else 1) < 30))=true:=by rfl)
    (hline:(apos.endLine == cpos.line)=true:=by rfl) (hs:starEach (e :: es) X.env=(false,eval e X.env) :: starEach es X.env:=by rfl) (hplain:(backTo cpos (starEach es X.env)).any (·.1)=false:=by rfl) :
    bV X (.Call (.Attribute o name apos) (e :: es) [] cpos) (tM3 T r3 to t):=by
  intro pins s σ H Q I h _tk
  obtain ⟨ρ,G,R,sr,g,q,kk⟩:=h
  refine wpAny_Call_method_late hbase hfew hline rfl (cD (ho pins s σ H (fun vx H1=>Ts H H1∧∃ x G1,RD X.K H1 x vx∧HR X.K H1 G1∧a1F T G1 x∧t ρ G1 fun xs G2=>r3 x xs G2 R) I ⟨ρ,G,_,sr,g,q,fun v H1 x G1 t1 r1 g1 q1=>⟨t1,x,G1,r1,g1,q1⟩⟩) fun v s1 ⟨vx,H1,I1,r1,t1,x,G1,rx,g1,ty,q1⟩=>?_)
  obtain ⟨h1,h2⟩:=a7T I1 r1 (a83 g1 rx ty)
  refine ⟨T,id,pa,slot,hty,h1,h2,?_⟩
  have hA:=ha cpos pins s1 σ H1 (fun vs H2=>Ts H1 H2∧∃ xs G2,bF X.K H2 xs vs∧HR X.K H2 G2∧r3 x xs G2 R) I1 ⟨ρ,G1,_,sr.mono t1,g1,q1,fun vs H2 xs G2 t2 r2 g2 q2=>⟨t2,xs,G2,r2,g2,q2⟩⟩
  rw [hs] at hA ⊢
  refine Calls.callWith_builtin (by show (false || (backTo cpos (starEach es X.env)).any (·.1))=false;rw [hplain] <;> rfl) (Calls.evalArgs_plain ?_)
  exact cD hA fun us s2 ⟨vs,H2,I2,r2,t2,xs,G2,rs,g2,q2⟩=>hm pins s2 σ H2 x xs vx vs v us G2 R Q I2 (rx.mono t2) rs r1 r2 g2 q2 fun v H' d G' t3=>kk v H' d G' ((t1.trans t2).trans t3)
theorem zN {o:Expr} {to:bL} {name:Str} {apos cpos:Pos} {T id:String} {r3:xU} (pa:PlainAttrs T) (slot:Slot T name id) (hty:typeOf (.builtin id)=pure (.type "method_descriptor")) (hm:rA X id r3) (ho:bV X o to)
    (hbase:attributeBase o name X.env (eval o X.env)=eval o X.env:=by rfl) (hline:(apos.endLine == cpos.line)=true:=by rfl):bV X (.Call (.Attribute o name apos) [] [] cpos) (aoH T r3 to):=by
  intro pins s σ H Q I h _tk
  obtain ⟨ρ,G,R,sr,g,q,kk⟩:=h
  refine wpAny_Call_method0_late hbase hline (cD (ho pins s σ H (fun vx H1=>Ts H H1∧∃ x G1,RD X.K H1 x vx∧HR X.K H1 G1∧a1F T G1 x∧r3 x [] G1 R) I ⟨ρ,G,_,sr,g,q,fun v H1 x G1 t1 r1 g1 q1=>⟨t1,x,G1,r1,g1,q1⟩⟩) fun v s1 ⟨vx,H1,I1,r1,t1,x,G1,rx,g1,ty,q1⟩=>?_)
  obtain ⟨h1,h2⟩:=a7T I1 r1 (a83 g1 rx ty)
  exact ⟨T,id,pa,slot,hty,h1,h2,Calls.callWith_builtin rfl (PySem.evalArgs_none (hm pins s1 σ H1 x [] vx [] v [] G1 R Q I1 rx .nil r1 .nil g1 q1 fun v H' d G' t3=>kk v H' d G' (t1.trans t3)))⟩
def iD:xU:=fun x xs G R=>match x,xs with
  | .ref p,[d]=>(match G p with
    | some (.lst ds)=>ds.length < sizeLine∧R .non (aL G p (.lst (ds++[d])))
    | _=>False)
  | _,_=>False
theorem a69:rA X "list.append" iD:=rA.of a2A fun H x xs vx vs G R Q rx rs g q k=>by
  cases rx with
  | ref p =>
    cases rs with
    | nil=>exact False.elim q
    | @cons d v ds ws r rr =>
      cases rr with
      | cons _ _=>exact False.elim q
      | nil =>
        have q':(match G p with
          | some (.lst ds)=>ds.length < sizeLine∧R .non (aL G p (.lst (ds++[d])))
          | _=>False):=q
        split at q'
        · rename_i ds e1
          obtain ⟨ys,f1,r1⟩:=g p _ e1
          refine ⟨p,ys,v,rfl,rfl,f1,by rw [← r1.length];exact q'.1,fun _=>?_⟩
          have tt:Ts H (upd H p (.lst (ys++[v]))) := .turn f1 (fun _ z=>nomatch z) (fun _ _ z=>nomatch z)
          exact k _ _ _ _ tt .non (g.turn (u := .lst (ds++[d])) tt ⟨_,aD,(r1.append (.cons r .nil)).mono tt⟩) q'.2
        · exact q'.elim
  | _=>cases rs <;> exact False.elim q
def a4C:bL:=fun _ G R=>∀ p,G p=none→R (.ref p) (aL G p (.iI false []))
theorem aoI {pos:Pos}:bV X (.Dict [] [] pos) a4C:=PE.imp (PE.kf ad5) fun σ H Q h=>by
  obtain ⟨ρ,G,R,s,g,q,k⟩:=h
  intro p hp kf
  have sn:Same H (upd H p (.dK [])):=aW hp
  exact k _ _ _ _ (.same sn) (.ref p) (g.put (u := .iI false []) hp (.inl ⟨rfl,[],aD,.nil⟩)) (q p (gC g hp kf))
def yC:bL:=fun _ G R=>∀ p,G p=none→R (.ref p) (aL G p (.iI true []))
theorem aiN {pos:Pos}:bV X (.Dict [] [] pos) yC:=PE.imp (PE.kf ad6) fun σ H Q h=>by
  obtain ⟨ρ,G,R,s,g,q,k⟩:=h
  intro p hp kf
  have sn:Same H (upd H p (.dT [])):=aW hp
  exact k _ _ _ _ (.same sn) (.ref p) (g.put (u := .iI true []) hp (.inr ⟨rfl,[],aD,.nil⟩)) (q p (gC g hp kf))
end
end L2
namespace L2
open PySem
theorem tM:bootBuiltins "isinstance" = some (.builtin "isinstance"):=by decide +kernel
theorem a4D:bootBuiltins "len" = some (.builtin "len"):=by decide +kernel
theorem aoJ:bootBuiltins "int" = some (.type "int"):=by decide +kernel
theorem aoK:bootBuiltins "str" = some (.type "str"):=by decide +kernel
theorem ae1:bootBuiltins "tuple" = some (.type "tuple"):=by decide +kernel
theorem aiO:bootBuiltins "list" = some (.type "list"):=by decide +kernel
end L2
namespace L2
open PySem PySem.Spec PyProof.Rows
def Its (x:Str):It:=⟨fun i _=>i < x.cps.size,fun i H v H'=>H'=H∧∃ c,x.cps[i]?=some c∧v = .str ⟨#[c]⟩,fun i _=>x.cps.size≤i⟩
theorem a2F {cm:Bool} {tl:List (Addr×List V)} {P:Program} {w:World} {K:PySem.W.Frag} {tg:Expr} (it:Addr) (x:Str) (t:Tok):Turn cm tl P w K tg (Its x) [it] it (fun i h=>h.IsStrIter it "str_ascii_iterator" x t (min i x.cps.size)) where
  mem:=by simp
  obj:=fun i h st b hb=>by
    have e:b=it:=by simpa using hb
    subst e
    obtain ⟨o,e,c,d⟩:=st
    exact ⟨o,e,fun v z=>by rw [d] at z;cases z⟩
  keep:=fun i h h' st k=>let ⟨o,e,r⟩:=st;⟨o,k it (by simp) o e,r⟩
  item:=by
    intro X hP hw hK hcm ht i pins s σ H E I hf st hg
    subst hP hw hK
    obtain ⟨f0,f1,f2,f3,f4,f5⟩:=hf it (by simp)
    have hi:i < x.cps.size:=hg
    rw [Nat.min_eq_left (Nat.le_of_lt hi)] at st
    refine wpAny_pyNext_ascii_item st (c:=x.cps[i]) (by simp [hi]) fun h' st' kk=>?_
    have I1:Inv X pins σ H { s with heap:=h',toks:=s.toks+1 }:=I.turned (fun b o hb e=>(kk.2 b hb).trans e) f0 f1 f3 f4 f5
    obtain ⟨o,e1,c1,d1⟩:=id st'
    refine ⟨_,rfl,a5O (s:={ s with heap:=h',toks:=s.toks+1 }) e1 c1 d1 (by decide) ⟨.str ⟨#[x.cps[i]]⟩,H,I1,⟨_,rfl⟩,⟨rfl,x.cps[i],by simp [hi],rfl⟩,?_,fun b hb=>(hf b hb).1⟩⟩
    rw [Nat.min_eq_left hi]
    exact st'
  done:=by
    intro X hP hw hK hcm ht i pins s σ H E I hf st hg
    subst hP hw hK
    obtain ⟨f0,f1,f2,f3,f4,f5⟩:=hf it (by simp)
    have hi:x.cps.size≤i:=hg
    rw [Nat.min_eq_right hi] at st
    exact ab7 (I.hnd.heap I.hok) st (by simp) fun h' eb=>⟨rfl,I.turned (t':=s.toks) (fun b o hb e=>eb b o hb e) f0 f1 f3 f4 f5⟩
  self:=fun _ _ _ _ _ st h=>wpAny_pyIter_striter_ascii st h
theorem a2G {cm:Bool} {tl:List (Addr×List V)} {P:Program} {w:World} {K:PySem.W.Frag} {tg:Expr} (it:Addr) (x:Str) (t:Tok):Turn cm tl P w K tg (Its x) [it] it (fun i h=>h.IsStrIter it "str_iterator" x t (min i x.cps.size)) where
  mem:=by simp
  obj:=fun i h st b hb=>by
    have e:b=it:=by simpa using hb
    subst e
    obtain ⟨o,e,c,d⟩:=st
    exact ⟨o,e,fun v z=>by rw [d] at z;cases z⟩
  keep:=fun i h h' st k=>let ⟨o,e,r⟩:=st;⟨o,k it (by simp) o e,r⟩
  item:=by
    intro X hP hw hK hcm ht i pins s σ H E I hf st hg
    subst hP hw hK
    obtain ⟨f0,f1,f2,f3,f4,f5⟩:=hf it (by simp)
    have hi:i < x.cps.size:=hg
    rw [Nat.min_eq_left (Nat.le_of_lt hi)] at st
    refine wpAny_pyNext_wide_item st (c:=x.cps[i]) (by simp [hi]) fun h' st' kk=>?_
    have I1:Inv X pins σ H { s with heap:=h',toks:=s.toks+1 }:=I.turned (fun b o hb e=>(kk.2 b hb).trans e) f0 f1 f3 f4 f5
    obtain ⟨o,e1,c1,d1⟩:=id st'
    refine ⟨_,rfl,a5O (s:={ s with heap:=h',toks:=s.toks+1 }) e1 c1 d1 (by decide) ⟨.str ⟨#[x.cps[i]]⟩,H,I1,⟨_,rfl⟩,⟨rfl,x.cps[i],by simp [hi],rfl⟩,?_,fun b hb=>(hf b hb).1⟩⟩
    rw [Nat.min_eq_left hi]
    exact st'
  done:=by
    intro X hP hw hK hcm ht i pins s σ H E I hf st hg
    subst hP hw hK
    obtain ⟨f0,f1,f2,f3,f4,f5⟩:=hf it (by simp)
    have hi:x.cps.size≤i:=hg
    rw [Nat.min_eq_right hi] at st
    exact ab8 (I.hnd.heap I.hok) st (by simp) fun h' eb=>⟨rfl,I.turned (t':=s.toks) (fun b o hb e=>eb b o hb e) f0 f1 f3 f4 f5⟩
  self:=fun _ _ _ _ _ st h=>wpAny_pyIter_striter_wide st h
inductive Src where
  | lst (p:Addr) (xs:List D) | imm (xs:List D) | zip (p q:Addr) (xs ys:List D) | itm (p:Addr) (o:Obj) (kvs:List (DK×D)) | key (p:Addr) (o:Obj) (t:Bool) (kvs:List (DK×D)) | tpl (p:Addr) (xs:List D) | enu (p:Addr) (xs:List D)
def enm (xs:List D):List D:=xs.zipIdx.map fun z => .tup [.int z.2,z.1]
def prs (xs ys:List D):List D:=(xs.zip ys).map fun z => .tup [z.1,z.2]
def Src.items:Src→List D
  | .lst _ xs=>xs
  | .imm xs=>xs
  | .zip _ _ xs ys=>prs xs ys
  | .itm _ _ kvs=>kvs.map fun z => .tup [dkD z.1,z.2]
  | .key _ _ _ kvs=>kvs.map fun z=>dkD z.1
  | .tpl _ xs=>xs
  | .enu _ xs=>enm xs
def Src.ok (G:Gp):Src→Prop
  | .lst p xs=>aZ G p=some xs
  | .imm _=>True
  | .zip p q xs ys=>aZ G p=some xs∧aZ G q=some ys
  | .itm p o kvs=>G p=some (.rdc o false kvs)
  | .key p o t kvs=>G p=some (.rdc o t kvs)
  | .tpl p xs=>G p=some (.tpl xs)
  | .enu p xs=>G p=some (.tpl xs)
def a6A (K:Fg) (H1:Hp) (src:Src) (J:It):Prop:=∀ H2 G2,Ts H1 H2→HR K H2 G2→src.ok G2 →
  (∀ i,i < src.items.length→J.go i H2)∧(∀ i v H',i < src.items.length→J.yld i H2 v H'→Same H2 H'∧∃ d,src.items[i]?=some d∧RD K H' d v)∧J.stop src.items.length H2
abbrev TI3:=aQ→Gp→(Src→Gp→Prop)→Prop
def upI (K:Fg) (t:TI3):TI:=fun σ H Q=>∃ ρ G R,SR K H ρ σ∧HR K H G∧t ρ G R∧∀ src J H' G',Ts H H'→HR K H' G'→a6A K H' src J→R src G'→Q J H'
abbrev PI3 (X:Cx) (tg iter:Expr) (t:TI3):Prop:=PI X tg iter (upI X.K t)
def signs (z:Str):List D:=z.cps.toList.map fun c => .str ⟨#[c]⟩
def wM (te:bL):TI3:=fun ρ G R=>te ρ G fun x G1=>match x with
  | .ref p=>(match aZ G1 p with
    | some xs=>R (.lst p xs) G1
    | none=>False)
  | .tup xs=>R (.imm xs) G1
  | .str z=>R (.imm (signs z)) G1
  | _=>False
theorem a2H {K:Fg} {H1:Hp} {p:Addr} {xs:List D}:a6A K H1 (.lst p xs) (Itl K p):=fun H2 G2 t g ok=>by
  obtain ⟨vs,hq,rv⟩:=bR g (show aZ G2 p=some xs from ok)
  refine ⟨fun i hi=>?_,fun i v H' hi hy=>?_,⟨vs,hq,Nat.le_of_eq rv.length.symm⟩⟩
  · have hi':i < xs.length:=hi
    obtain ⟨y,e1,_⟩:=rv.get (List.getElem?_eq_getElem hi')
    exact ⟨vs,y,hq,e1⟩
  · obtain ⟨rfl,hy⟩:=hy
    obtain ⟨d,e1,e2⟩:=rv.ai6 (hy vs hq)
    exact ⟨.refl _,d,e1,e2⟩
theorem a6C {K:Fg} {H1:Hp} {a:Addr} {vs:List V} {xs:List D} (hq:pF K H1 a vs) (rv:bF K H1 xs vs):a6A K H1 (.imm xs) (Itt K a):=fun H2 G2 t g ok=>by
  have hq2:=t.sqT hq
  have rv2:=rv.mono t
  refine ⟨fun i hi=>?_,fun i v H' hi hy=>?_,⟨vs,hq2,Nat.le_of_eq rv.length.symm⟩⟩
  · have hi':i < xs.length:=hi
    obtain ⟨y,e1,_⟩:=rv2.get (List.getElem?_eq_getElem hi')
    exact ⟨vs,y,hq2,e1⟩
  · obtain ⟨rfl,hy⟩:=hy
    obtain ⟨d,e1,e2⟩:=rv2.ai6 (hy vs hq2)
    exact ⟨.refl _,d,e1,e2⟩
theorem zO {K:Fg} {H1:Hp} {z:Str}:a6A K H1 (.imm (signs z)) (Its z):=fun H2 G2 t g ok=>by
  have hl:(signs z).length=z.cps.size:=by simp [signs]
  refine ⟨fun i hi=>?_,fun i v H' hi hy=>?_,?_⟩
  · have:i < (signs z).length:=hi
    rw [hl] at this
    exact this
  · obtain ⟨rfl,c,hc,rfl⟩:=hy
    exact ⟨.refl _,.str ⟨#[c]⟩,by simp [Src.items,signs,hc],.str _⟩
  · show z.cps.size≤(signs z).length
    rw [hl];exact Nat.le_refl _
theorem a6D {K:Fg} {H1:Hp} {lo:Int} {n:Nat}:a6A K H1 (.imm ((List.range n).map fun (i:Nat) => .int (lo+(i:Int)))) (Itr lo n):=fun H2 G2 t g ok=>by
  refine ⟨fun i hi=>?_,fun i v H' hi hy=>?_,?_⟩
  · have hi':i < n:=by simpa [Src.items] using hi
    exact hi'
  · obtain ⟨rfl,rfl⟩:=hy
    have hi':i < n:=by simpa [Src.items] using hi
    exact ⟨.refl _,.int (lo+i),by simp [Src.items,hi'],.int _⟩
  · show n≤_
    simp [Src.items]
section
variable {X:Cx} {tg:Expr}
theorem PI.imp {e:Expr} {t t':TI} (h:PI X tg e t) (k:∀ σ H Q,t' σ H Q→t σ H Q):PI X tg e t':=fun pins s σ H Q I q=>h pins s σ H Q I (k _ _ _ q)
theorem auE {l:Expr} {te:bL} (hl:bV X l te):PI3 X tg l (wM te):=by
  intro pins s σ H R I h _tk
  obtain ⟨ρ,G,R3,sr,g,q,k⟩:=h
  refine cD (hl pins s σ H (fun v H1=>Ts H H1∧∃ x G1,RD X.K H1 x v∧HR X.K H1 G1∧(match x with
    | .ref p=>(match aZ G1 p with
      | some xs=>R3 (.lst p xs) G1
      | none=>False)
    | .tup xs=>R3 (.imm xs) G1
    | .str z=>R3 (.imm (signs z)) G1
    | _=>False)) I ⟨ρ,G,_,sr,g,q,fun v H1 x G1 t1 r g1 q1=>⟨t1,x,G1,r,g1,q1⟩⟩) fun v s1 ⟨x,H1,I1,r1,t1,d,G1,rd,g1,q1⟩=>?_
  cases rd with
  | ref a =>
    have q1':(match aZ G1 a with
      | some xs=>R3 (.lst a xs) G1
      | none=>False):=q1
    split at q1'
    · rename_i xs e
      cases r1
      obtain ⟨vs,hq,rv⟩:=bR g1 e
      obtain ⟨its,rv',p,hz⟩:=I1.list hq
      refine wpAny_pyIter_list p.isList ?_
      refine ⟨s1.heap.objs.size,[s1.heap.objs.size],_,_,H1,rfl,I1.kept (t':=s1.toks) fun b o e=>Heap.get?_push_of_some _ e,a1V a _,⟨_,Heap.get?_push_size _ rfl,rfl,rfl⟩,fun b hb=>?_,k _ _ H1 G1 t1 g1 a2H q1'⟩
      have e:b=s1.heap.objs.size:=by simpa using hb
      subst e
      exact I1.yS (Nat.le_refl _) (I1.hok.fresh (Nat.le_refl _))
    · exact q1'.elim
  | @tup a vs xs hq rv =>
    cases r1
    obtain ⟨its,rv',p,hz⟩:=I1.tuple hq
    refine wpAny_pyIter_tuple (show s1.heap.IsTuple a its.toArray from p) ?_
    refine ⟨s1.heap.objs.size,[s1.heap.objs.size],_,_,H1,rfl,I1.kept (t':=s1.toks) fun b o e=>Heap.get?_push_of_some _ e,yU a _,⟨_,Heap.get?_push_size _ rfl,rfl,rfl⟩,fun b hb=>?_,k _ _ H1 G1 t1 g1 (a6C hq rv) q1⟩
    have e:b=s1.heap.objs.size:=by simpa using hb
    subst e
    exact I1.yS (Nat.le_refl _) (I1.hok.fresh (Nat.le_refl _))
  | str z =>
    obtain ⟨t,rfl⟩:=r1
    cases ha:z.cps.all (· < 128)
    · refine wpAny_pyIter_wide ha ?_
      refine ⟨s1.heap.objs.size,[s1.heap.objs.size],_,_,H1,rfl,I1.kept (t':=s1.toks) fun b o e=>Heap.get?_push_of_some _ e,a2G _ z t,?_,fun b hb=>?_,k _ _ H1 G1 t1 g1 zO q1⟩
      · rw [Nat.zero_min];exact ⟨_,Heap.get?_push_size _ rfl,rfl,rfl⟩
      · have e:b=s1.heap.objs.size:=by simpa using hb
        subst e
        exact I1.yS (Nat.le_refl _) (I1.hok.fresh (Nat.le_refl _))
    · refine wpAny_pyIter_ascii ha ?_
      refine ⟨s1.heap.objs.size,[s1.heap.objs.size],_,_,H1,rfl,I1.kept (t':=s1.toks) fun b o e=>Heap.get?_push_of_some _ e,a2F _ z t,?_,fun b hb=>?_,k _ _ H1 G1 t1 g1 zO q1⟩
      · rw [Nat.zero_min];exact ⟨_,Heap.get?_push_size _ rfl,rfl,rfl⟩
      · have e:b=s1.heap.objs.size:=by simpa using hb
        subst e
        exact I1.yS (Nat.le_refl _) (I1.hok.fresh (Nat.le_refl _))
  | _=>exact q1.elim
def a1G (lo hi:Int):List D:=(List.range (hi - lo).toNat).map fun (i:Nat) => .int (lo+(i:Int))
def rB (ta:lO):TI3:=fun ρ G R=>ta ρ G fun xs G1=>match xs with
  | [.int j]=>-(2 ^ 62)≤j∧j < 2 ^ 62∧R (.imm (a1G 0 j)) G1
  | _=>False
theorem aoM {a:Expr} {ta:lO} {p pos:Pos} (hg:Gl X "range") (hm:X.mg "range" = none) (ha:PA3 X [a] ta) (hs:starEach [a] X.env=[(false,eval a X.env)]):PI3 X tg (.Call (.Name "range" p) [a] [] pos) (rB ta) :=
  PI.imp (a1W hg hm ha hs) fun σ H Q h=>by
  obtain ⟨ρ,G,R,s,g,q,k⟩:=h
  refine ⟨ρ,G,_,s,g,q,fun vs H1 ds G1 t1 r g1 h1=>?_⟩
  cases r with
  | nil=>exact h1.elim
  | cons r rr =>
    cases rr with
    | cons _ _=>cases r <;> exact False.elim h1
    | nil =>
      cases r with
      | int j =>
        obtain ⟨l1,l2,h1⟩:=h1
        refine ⟨j,rfl,l1,l2,k _ _ H1 G1 t1 g1 ?_ h1⟩
        unfold a1G
        rw [show (j - 0).toNat=j.toNat by omega]
        exact a6D
      | _=>exact False.elim h1
end
end L2
namespace L2
open PySem PySem.Spec PyProof.Rows
def jU (cells:List (Str×Addr)):List (Str×NameKind)→List (Str×Addr)→List (Str×Addr)
  | [],cs=>cs
  | (n,k) :: r,cs=>jU cells r (if k = .free then (match cells.lookup n with
    | some a=>(n,a) :: cs
    | none=>cs) else cs)
theorem nD {scope:Scope} {env:Env} (h:∀ y∈scope.names,y.2 = .free→∃ c,env.cells.lookup y.1=some c):closureFor scope env=pure (jU env.cells scope.names []):=by
  unfold closureFor
  have all:∀ (l:List (Str×NameKind)) (cs:List (Str×Addr)),(∀ y∈l,y.2 = .free→∃ c,env.cells.lookup y.1=some c) →
      (forIn l cs fun (x:Str×NameKind) (r:List (Str×Addr))=>(if (x.2 == NameKind.free)=true then do
        let a ← cellOf env x.1
        pure (ForInStep.yield ((x.1,a) :: r)) else pure (ForInStep.yield r):Sem (ForInStep (List (Str×Addr)))))=(pure (jU env.cells l cs):Sem (List (Str×Addr))):=by
    intro l
    induction l with
    | nil=>intro cs _;rfl
    | cons y r ih =>
      intro cs hl
      obtain ⟨n,k⟩:=y
      rw [List.forIn_cons]
      by_cases hk:k = .free
      · subst hk
        obtain ⟨c,hc⟩:=hl (n,.free) (by simp) rfl
        have e:cellOf env n=pure c:=by unfold cellOf;rw [hc]
        simp only [beq_self_eq_true,if_true,e]
        show (forIn r ((n,c) :: cs) _:Sem _)=_
        rw [ih _ fun y hy=>hl y (by simp [hy])]
        simp only [jU,if_true,hc]
      · have hk':(k == NameKind.free)=false:=by simpa using hk
        simp only [hk',Bool.false_eq_true,if_false]
        show (forIn r cs _:Sem _)=_
        rw [ih _ fun y hy=>hl y (by simp [hy])]
        simp only [jU,if_neg hk]
  have z:=all scope.names [] h
  exact congrArg (fun m=>m >>= fun cs=>pure cs) z
theorem eX {cells:List (Str×Addr)}:∀ {l:List (Str×NameKind)} {cs:List (Str×Addr)} {y:Str} {c:Addr},(jU cells l cs).lookup y=some c→(∀ c,cs.lookup y=some c→cells.lookup y=some c)→cells.lookup y=some c
  | [],cs,y,c,h,k=>k c h
  | (n,kd) :: r,cs,y,c,h,k=>by
    unfold jU at h
    refine eX h fun c' h'=>?_
    by_cases hk:kd = .free
    · rw [if_pos hk] at h'
      split at h'
      · rename_i a ha
        rw [List.lookup_cons] at h'
        split at h'
        · rename_i e
          have e':y=n:=beq_iff_eq.mp e
          subst e'
          rw [ha];exact h'
        · exact k c' h'
      · exact k c' h'
    · rw [if_neg hk] at h'
      exact k c' h'
theorem zP {cells:List (Str×Addr)}:∀ {l:List (Str×NameKind)} {cs:List (Str×Addr)} {y:Str},(∃ c,cs.lookup y=some c)→∃ c,(jU cells l cs).lookup y=some c
  | [],cs,y,h=>h
  | (n,kd) :: r,cs,y,h=>by
    unfold jU
    refine zP ?_
    by_cases hk:kd = .free
    · rw [if_pos hk]
      split
      · rw [List.lookup_cons]
        split
        · exact ⟨_,rfl⟩
        · exact h
      · exact h
    · rw [if_neg hk];exact h
theorem wN {cells:List (Str×Addr)} {y:Str} {c:Addr} (hc:cells.lookup y=some c):∀ {l:List (Str×NameKind)} {cs:List (Str×Addr)},(y,NameKind.free)∈l→∃ c,(jU cells l cs).lookup y=some c
  | [],cs,h=>by simp at h
  | (n,kd) :: r,cs,h=>by
    unfold jU
    rcases List.mem_cons.mp h with e | h
    · cases e
      refine zP ?_
      rw [if_pos rfl,hc]
      simp
    · exact wN hc h
theorem mem_of_lookup {α:Type}:∀ {l:List (Str×α)} {y:Str} {k:α},l.lookup y=some k→(y,k)∈l
  | [],_,_,h=>by simp at h
  | (n,kd) :: r,y,k,h=>by
    rw [List.lookup_cons] at h
    split at h
    · rename_i e
      have e':y=n:=beq_iff_eq.mp e
      cases h;subst e';simp
    · exact List.mem_cons_of_mem _ (mem_of_lookup h)
structure oA (X:Cx) (xs:List Str) (scope:Scope):Prop where
  kind:scope.kind = .function
  a85:∀ y∈scope.names,y.2 ≠ .cell
  locs:∀ y∈scope.names,y.2 = .local→scope.names.lookup y.1=some .local
  var:∀ x∈xs,scope.names.lookup x=some .local
  frees:∀ y∈scope.names,y.2 = .free→X.env.kindOf y.1=some .cell∨X.env.kindOf y.1=some .free
  out:∀ x∈xs,x ∉ X.N
  nd:xs.Nodup
  only:∀ y∈X.N,scope.names.lookup y≠some .local
abbrev f9 (X:Cx) (xs:List Str) (scope:Scope) (C:Addr) (s₃:Shared) (H₃:Hp) (fp:List Addr) (pins:List (Addr×Obj)):Cx :=
  { X with N:=xs++X.N,s₀:=s₃,H₀:=H₃,env:=compEnvC scope (jU X.env.cells scope.names []) C X.env,outer:=X.stack,stack:=X.stack,ex:=fp,fn:=fun _=>false,pn:=X.pn++pins,xe:=fun _ _=>False,need:=false }
def nn (xs:List Str) (σ:St):St:=xs.map (fun _=>none)++σ
theorem ae2 {xs:List Str} {σ:St} {i:Nat} {v:V} (h:(nn xs σ)[i]?=some (some v)):∃ j,i=xs.length+j∧σ[j]?=some (some v):=by
  unfold nn at h
  by_cases c:i < xs.length
  · rw [List.getElem?_append_left (by simpa using c)] at h
    simp at h
  · rw [List.getElem?_append_right (by simpa using c)] at h
    exact ⟨i - xs.length,by omega,by simpa using h⟩
theorem a9T {α:Type} {xs ys:List α} {j:Nat}:(xs++ys)[xs.length+j]?=ys[j]?:=by
  rw [List.getElem?_append_right (by omega)]
  congr 1
  omega
theorem cI {env:Env} {y:Str} {k:NameKind}:∀ {names:List (Str×NameKind)},(names.map fun (n,k)=>if (k == .free&&env.scope.kind == .function&&env.kindOf n == some .cell) then (n,.cell) else (n,k)).lookup y=some k →
    ∃ k',names.lookup y=some k'∧(k=k'∨(k = .cell∧k' = .free))
  | [],h=>by simp at h
  | (n,kd) :: r,h=>by
    rw [List.map_cons] at h
    by_cases hc:(kd == .free&&env.scope.kind == .function&&env.kindOf n == some .cell)=true
    · have h':List.lookup y ((n,NameKind.cell) :: (r.map fun (n,k)=>if (k == .free&&env.scope.kind == .function&&env.kindOf n == some .cell) then (n,.cell) else (n,k)))=some k:=by
        simp only [hc,if_true] at h;exact h
      rw [List.lookup_cons] at h' ⊢
      cases hx:y == n with
      | true =>
        rw [hx] at h'
        cases h'
        refine ⟨kd,rfl,.inr ⟨rfl,?_⟩⟩
        simp only [Bool.and_eq_true,beq_iff_eq] at hc
        exact hc.1.1
      | false =>
        rw [hx] at h'
        exact cI h'
    · have h':List.lookup y ((n,kd) :: (r.map fun (n,k)=>if (k == .free&&env.scope.kind == .function&&env.kindOf n == some .cell) then (n,.cell) else (n,k)))=some k:=by
        simp only [hc,if_false] at h
        exact h
      rw [List.lookup_cons] at h' ⊢
      cases hx:y == n with
      | true =>
        rw [hx] at h'
        cases h'
        exact ⟨_,rfl,.inl rfl⟩
      | false =>
        rw [hx] at h'
        exact cI h'
end L2
namespace L2
open PySem PySem.Spec PyProof.Rows
section
variable {X:Cx} {xs:List Str} {scope:Scope} {C:Addr} {pins:List (Addr×Obj)} {σ:St} {H H₃:Hp} {s s₃:Shared} {fp:List Addr}
theorem a4E (I:Inv X pins σ H s) {b:Addr} (hb:b∈frs X.stack):b=X.env.locals∨b∈X.fs:=List.mem_cons.mp (I.a7K b hb)
theorem aoN (I:Inv X pins σ H s) (c:oA X xs scope) (hC:s.heap.objs.size≤C) (hf:∀ b∈fp,jP X pins H b∧b < s.heap.objs.size):(f9 X xs scope C s H fp pins).Ok where
  mod:=I.ok.mod
  kind:=c.kind
  glob:=I.ok.glob
  blt:=I.ok.blt
  above:=hC
  inj:=fun y z d h1 h2=>I.ok.inj y z d (eX h1 fun _ h=>by simp at h) (eX h2 fun _ h=>by simp at h)
  has:=fun y h=>by
    have hy:(y,NameKind.free)∈scope.names:=by
      rcases h with h | h
      · obtain ⟨k',e,z⟩:=cI (env:=X.env) (names:=scope.names) h
        rcases z with z | ⟨_,z⟩
        · subst z
          exact absurd rfl (c.a85 _ (mem_of_lookup e))
        · subst z;exact mem_of_lookup e
      · obtain ⟨k',e,z⟩:=cI (env:=X.env) (names:=scope.names) h
        rcases z with z | ⟨z,_⟩
        · subst z;exact mem_of_lookup e
        · cases z
    obtain ⟨d,hd⟩:=I.ok.has y (c.frees _ hy rfl)
    exact wN hd hy
  cab:=fun _ _ h=>absurd h (by simp)
  hd:=I.ok.hd
  frames:=I.ok.frames
  stk := .inl rfl
  exf:=fun b hb=>by
    obtain ⟨⟨f0,f1,f2,f3,f4,f5⟩,lt⟩:=hf b hb
    exact ⟨Nat.ne_of_lt (Nat.lt_of_lt_of_le lt hC),fun y d h=>f4 y d (eX h fun _ h=>by simp at h)⟩
  bs:=fun b o e=>I.bs b o e
  bsz:=Nat.le_trans I.ok.bsz I.sz
  a5M:=fun b o e hb=>by
    obtain ⟨⟨f0,f1,f2,f3,f4,f5⟩,lt⟩:=hf b hb
    rcases f3 with z | z
    · exact I.ok.a5M b o e z
    · exact absurd (Nat.lt_of_lt_of_le (Heap.lt_size e) (Nat.le_trans I.ok.bsz z)) (Nat.lt_irrefl _)
  a7I:=fun b hb hs=>by
    obtain ⟨⟨f0,f1,f2,f3,f4,f5⟩,lt⟩:=hf b hb
    rcases a4E I hs with z | z
    · exact f1 z
    · exact f2 z
  mY:=I.stack
  frf:=fun b hb=>I.a3G b hb
theorem aoO (I:Inv X pins σ H s) (c:oA X xs scope) (hC:s.heap.objs.size=C) (hf:∀ b∈fp,jP X pins H b∧b < s.heap.objs.size) {h₁:Heap} {m:Str→Option Value} {tk:Nat} (hn:h₁.Ns C m) (hk:∀ b o,s.heap.get? b=some o→h₁.get? b=some o) :
    Inv (f9 X xs scope C s H fp pins) [] (nn xs σ) H { s with heap:=h₁,toks:=tk }:=by
  have lt:∀ b o,s.heap.get? b=some o→b≠C:=fun b o e=>by rw [← hC];exact Nat.ne_of_lt (Heap.lt_size e)
  refine ⟨aoN I c (Nat.le_of_eq hC) hf,rfl,I.bare,Un.kept hk,⟨m,hn,fun i y v e1 e2 e3=>?_⟩,fun y d e=>?_,I.hok.fresh (Nat.le_of_eq hC),fun y d e=>I.jO y d (eX e fun _ h=>by simp at h),fun p hp=>?_,I.hok.kept hk,by simp [nn,I.len],I.hnd,I.tup⟩
  · obtain ⟨i,rfl,e2'⟩:=ae2 e2
    · have e1':X.N[i]?=some y:=a9T.symm.trans e1
      have hy:y∈X.N:=List.mem_of_getElem? e1'
      have free:(y,NameKind.free)∈scope.names:=by
        have e3':∃ k,(relabel scope X.env).names.lookup y=some k∧(k = .local∨k = .cell∨k = .free):=by
          rcases e3 with h | h | h
          · exact ⟨_,h,.inl rfl⟩
          · exact ⟨_,h,.inr (.inl rfl)⟩
          · exact ⟨_,h,.inr (.inr rfl)⟩
        obtain ⟨k,h,hk⟩:=e3'
        obtain ⟨k',e,z⟩:=cI (env:=X.env) (names:=scope.names) h
        rcases z with z | ⟨_,z⟩
        · subst z
          rcases hk with rfl | rfl | rfl
          · exact absurd e (c.only y hy)
          · exact absurd rfl (c.a85 _ (mem_of_lookup e))
          · exact mem_of_lookup e
        · subst z;exact mem_of_lookup e
      have hkd:=c.frees _ free rfl
      obtain ⟨m',hn',hlo⟩:=I.loc
      have vis:Vis X.env.scope y:=hkd.elim (fun z => .inr (.inl z)) fun z => .inr (.inr z)
      obtain ⟨u,r,l⟩:=hlo i y v e1' e2' vis
      refine ⟨u,r,.inr ⟨?_,?_⟩⟩
      · rcases e3 with h | h | h
        · obtain ⟨k',e,z⟩:=cI (env:=X.env) (names:=scope.names) h
          rcases z with z | ⟨z,_⟩
          · subst z;exact absurd e (c.only y hy)
          · cases z
        · exact .inl h
        · exact .inr h
      · rcases l with ⟨hl,_⟩ | ⟨_,d,hd,hcell⟩
        · rcases hkd with z | z
          · rw [z] at hl;cases hl
          · rw [z] at hl;cases hl
        · obtain ⟨d',hd'⟩:=wN (cells:=X.env.cells) (l:=scope.names) (cs:=[]) hd free
          have:=eX hd' fun _ h=>by simp at h
          rw [hd] at this;cases this
          refine ⟨d,hd',?_⟩
          obtain ⟨o,ho,hod⟩:=hcell
          exact ⟨o,hk _ _ ho,hod⟩
  · obtain ⟨w,o,ho,hod⟩:=I.cell y d (eX e fun _ h=>by simp at h)
    exact ⟨w,o,hk _ _ ho,hod⟩
  · have hp':p∈X.pn++pins:=by simpa using hp
    obtain ⟨e,n,ne,nf,d⟩:=I.pin p hp'
    refine ⟨hk _ _ e,n,lt _ _ e,fun z=>?_,d⟩
    rcases a4E I z with z | z
    · exact ne z
    · exact nf z
theorem aiP (I:Inv X pins σ H s) (hC:s.heap.objs.size=C) (hf:∀ b∈fp,jP X pins H b∧b < s.heap.objs.size) {xC:List (Addr×Obj)} {σ':St} {H':Hp} {s':Shared} {h':Heap} {tk:Nat} (J:Inv (f9 X xs scope C s H fp pins) xC σ' H' s') (hs:Heap.SameBut C s'.heap h') :
    Inv X pins σ H' { s' with heap:=h',toks:=tk }:=by
  have ne:∀ b o,s.heap.get? b=some o→b≠C:=fun b o e=>by rw [← hC];exact Nat.ne_of_lt (Heap.lt_size e)
  have u:Un (frs X.stack) fp H H' s.heap s'.heap:=J.base
  have hfree:H' C=none:=J.free
  refine I.call' (ch:=fp) J.os ⟨fun b o e n hb hx=>?_,fun b o e n hb hx=>?_,u.free,fun b o e hx=>?_,u.tups,u.cQ,u.m7⟩ (fun b o e=>?_) J.bare (fun b hb=>?_)
  · exact (hs.2 b (ne b o e)).trans (u.keep b o e n hb hx)
  · obtain ⟨sl,e1⟩:=u.slot b o e n hb hx
    exact ⟨sl,(hs.2 b (ne b o e)).trans e1⟩
  · obtain ⟨o',e1⟩:=u.there b o e hx
    exact ⟨o',(hs.2 b (ne b o e)).trans e1⟩
  · refine (J.hok b o e).stay (fun d w hd q=>(hs.2 d ?_).trans q) (fun _ q=>q) fun _ _ q=>q
    rintro rfl
    rcases hd with z | z
    · rw [z] at hfree;rw [e] at hfree;cases hfree
    · rw [hfree] at z;cases z
  · obtain ⟨⟨f0,f1,f2,f3,f4,f5⟩,lt⟩:=hf b hb
    exact ⟨f3,f1,f4,f5⟩
end
end L2
namespace L2
open PySem PySem.Spec PyProof.Rows
def wO:rZ:=fun _ G R=>R true G
def abS (X:Cx) (ifs:List Expr) (tc:rZ):Prop :=
  ∀ (pins:List (Addr×Obj)) (s:Shared) (σ:St) (H:Hp) (Q:Bool→Hp→Prop),Inv X pins σ H s→upT X.K tc σ H Q→[Tk X.need s] →
    wpAny (model X.prog X.w) X.A (forIn ifs true fun c r=>if r=true then do let ok ← isTrue c X.env (eval c X.env);pure (ForInStep.yield ok) else pure (ForInStep.yield r)) (TP X pins σ Q) X.xe s
theorem aiQ {X:Cx}:abS X [] wO:=fun pins s σ H Q I h=>by
  obtain ⟨ρ,G,R,sr,g,q,k⟩:=h
  exact wpAny_pure ⟨H,I,k true H G (.refl H) g q⟩
theorem aiR {X:Cx} {c:Expr} {tc:rZ} (hc:PT3 X c tc):abS X [c] tc:=fun pins s σ H Q I h=>by
  rw [List.forIn_cons]
  simp only [if_true]
  refine wpAny_bind (wpAny_bind (cD (hc pins s σ H Q I h) fun b s1 q=>?_))
  intro arZ
  exact wpAny_pure (wpAny_pure q)
section
variable {X:Cx} {x:Str} {xs:List Str} {tgt:Expr} {dv:D→Option (List D)} {scope:Scope} {iter elt:Expr} {ifs:List Expr} {px pos:Pos} {ti:TI3} {tc:rZ} {te:bL}
structure aiS (X:Cx) (pins:List (Addr×Obj)) (H':Hp) (C:Addr) (h:Heap):Prop where
  ns:∃ m,h.Ns C m
  free:H' C=none
  loc:C≠X.env.locals
  young:X.s₀.heap.objs.size≤C
  cells:∀ y d,X.env.cells.lookup y=some d→d≠C
  pins:∀ p∈X.pn++pins,p.1≠C
theorem aiS.turn {X:Cx} {pins:List (Addr×Obj)} {σ:St} {H':Hp} {C:Addr} {s:Shared} (o:aiS X pins H' C s.heap) (I:Inv X pins σ H' s) {h':Heap} (hs:Heap.SameBut C s.heap h'):Inv X pins σ H' { s with heap:=h' } :=
  I.turned (t':=s.toks) (fun b ob hb e=>(hs.2 b hb).trans e) o.free o.loc (.inr o.young) o.cells o.pins
def ae3 (Y:Cx) (tgt:Expr) (xs:List Str) (dv:D→Option (List D)) (σ:St):Prop:=∀ (pins:List (Addr×Obj)) (s:Shared) (H:Hp) (v:V) (u:Value) (d:D) (ds:List D),Inv Y pins (nn xs σ) H s→RelV v u→RD Y.K H d v→dv d=some ds →
  wpAny (model Y.prog Y.w) Y.A (assign tgt Y.env u) (fun _ s'=>∃ vs,bF Y.K H ds vs∧Inv Y pins (vs.map some++σ) H s') Y.xe s
theorem ae4 {K:Fg} {H:Hp} {ρ:aQ} {σ:St} (s:SR K H ρ σ):∀ {ds:List D} {vs:List V},bF K H ds vs→SR K H (ds.map some++ρ) (vs.map some++σ)
  | _,_,.nil=>s
  | _,_,.cons h r => .some h (ae4 s r)
theorem ae5 {prog:Program} {w:World} {A:Around} {R:Result→Shared→Prop} {s:Shared} {elt target iter:Expr} {ifs:List Expr} {scope:Scope} {pos:Pos} {it acc:Value} {env:Env} (J:Nat→Shared→Prop)
    (turn:∀ n s,J n s→wpAny (model prog w) A (pyNext it) (fun r s1=>match r with
      | none=>R (.ok .next) s1
      | some v=>wpAny (model prog w) A (letOwnedTupleGo target it v) (fun _ s1'=>wpAny (model prog w) A (assign target env v) (fun _ s2 =>
          wpAny (model prog w) A (forIn ifs true fun c r=>if r=true then do let ok ← isTrue c env (eval c env);pure (ForInStep.yield ok) else pure (ForInStep.yield r)) (fun ok s3 =>
            if ok=true then wpAny (model prog w) A (eval elt env) (fun x s4 =>
              wpAny (model prog w) A (call (.builtin "list.append") [acc,x]) (fun _ s5=>∃ m,m < n∧J m s5) (notedBy (model prog w) A env fun e s'=>R (.error e) s') s4) (notedBy (model prog w) A env fun e s'=>R (.error e) s') s3
            else ∃ m,m < n∧J m s3) (notedBy (model prog w) A env fun e s'=>R (.error e) s') s2) (notedBy (model prog w) A env fun e s'=>R (.error e) s') s1') (notedBy (model prog w) A env fun e s'=>R (.error e) s') s1) (notedBy (model prog w) A env fun e s'=>R (.error e) s') s)
    (n:Nat) (h:J n s):codeAny (model prog w) A (.compLoop (.ListComp elt [⟨target,iter,ifs,0⟩] scope pos) 0 it acc env) R s:=by
  refine codeAny_loop rfl J (fun n s hJ=>?_) n h
  show wpAny _ A ((compTurn (.ListComp elt [⟨target,iter,ifs,0⟩] scope pos) 0 it acc env).onRaise (fun z=>do noteFrame z env;theTreesLotGoes z)) _ _ s
  refine wpAny_noted ?_
  rw [compTurn_list]
  refine wpAny_bind (wpAny_standAt (wpAny_bind (wpAny_mono (turn n s hJ) (fun r s1 h1=>?_) fun _ _ z=>z)))
  cases r with
  | none=>exact wpAny_pure h1
  | some v =>
    refine wpAny_bind (wpAny_mono h1 (fun _ s1' h1'=>?_) fun _ _ z=>z)
    refine wpAny_bind (wpAny_mono h1' (fun _ s2 h2=>wpAny_bind (wpAny_mono h2 (fun ok s3 h3=>?_) fun _ _ z=>z)) fun _ _ z=>z)
    cases ok with
    | false=>exact wpAny_pure ⟨rfl,h3⟩
    | true=>exact wpAny_bind (wpAny_bind (wpAny_mono h3 (fun x s4 h4=>wpAny_bind (wpAny_mono h4 (fun _ s5 h5=>wpAny_pure (wpAny_pure ⟨rfl,h5⟩)) fun _ _ z=>z)) fun _ _ z=>z))
theorem a2I (c:oA X xs scope) (hT:∀ C s H fp pins σ,ae3 (f9 X xs scope C s H fp pins) tgt xs dv σ) (hdv:∀ d ds,dv d=some ds→ds.length=xs.length) (hc:∀ C s H fp pins,abS (f9 X xs scope C s H fp pins) ifs tc) (he:∀ C s H fp pins,bV (f9 X xs scope C s H fp pins) elt te)
    {pins:List (Addr×Obj)} {s2:Shared} {σ:St} {H H2:Hp} {ρ:aQ} {G1:Gp} {R:dG} {it:Addr} {fp:List Addr} {tn:Nat→Heap→Prop} {J:It} {src:Src} {RR:Value→Addr→Result→Shared→Prop} (sr:SR X.K H ρ σ) (I2:Inv X pins σ H2 s2) (T:Turn X.calm X.tp X.prog X.w X.K tgt J fp it tn) (st2:tn 0 s2.heap) (f2:∀ b∈fp,jP X pins H2 b) (t1:Ts H H2) (g1:HR X.K H2 G1) (sj:a6A X.K H2 src J)
    (hlen:src.items.length < sizeLine) (body:∀ p,G1 p=none→∃ P:Nat→List D→Gp→Prop,P 0 [] (aL G1 p (.lst [])) ∧
      (∀ k ds G,k≤src.items.length→P k ds G→src.ok G∧G p=some (.lst ds)∧ds.length≤k) ∧
      (∀ k d ds G,src.items[k]?=some d→P k ds G→∃ ys,dv d=some ys∧tc (ys.map some++ρ) G fun b G2=>if b=true then te (ys.map some++ρ) G2 fun y G3=>G3 p=some (.lst ds)∧P (k+1) (ds++[y]) (aL G3 p (.lst (ds++[y]))) else P (k+1) ds G2) ∧
      ∀ ds G,P src.items.length ds G→∃ G0,Le G0 G∧R (.ref p) G0)
    (hRR:∀ Da C s5 H' G0,Inv X pins σ H' s5→aiS X pins H' C s5.heap→Ts H H'→HR X.K H' G0→R (.ref Da) G0→RR (.ref Da) C (.ok .next) s5) :
    wpAny (model X.prog X.w) X.A (newList []) (fun acc s₃=>wpAny (model X.prog X.w) X.A (newFunctionEnv scope X.env.globals (jU X.env.cells scope.names []) [] X.env.qual none .none (some X.env)) (fun cenv s₄ =>
      codeAny (model X.prog X.w) X.A (.compStart (.ListComp elt [⟨tgt,iter,ifs,0⟩] scope pos) 0 (.ref it) acc { cenv with scope:=relabel scope X.env }) (RR acc cenv.locals) s₄) X.xe s₃) X.xe s2:=by
  refine wpAny_newObj_type ?_
  have I3:=I2.asZ (its:=[]) (ys:=[]) (t':=s2.toks) .nil (by decide)
  have hD:H2 s2.heap.objs.size=none:=I2.fresh
  have kf:=qP I3
  have gD:G1 s2.heap.objs.size=none:=gC g1 hD kf
  obtain ⟨P,p0,pok,pst,pend⟩:=body _ gD
  have ltD:∀ b∈fp,b < s2.heap.objs.size:=fun b hb=>by
    obtain ⟨o,e,_⟩:=T.obj 0 _ st2 b hb
    exact Heap.lt_size e
  have hsz3:(s2.heap.push { cls := .type "list",data := .seq ([]:List Value).toArray }).objs.size=s2.heap.objs.size+1:=Heap.size_push ..
  have hf3:∀ b∈fp,jP X pins (upd H2 s2.heap.objs.size (.lst [])) b∧b < (s2.heap.push { cls := .type "list",data := .seq ([]:List Value).toArray }).objs.size:=fun b hb=>by
    obtain ⟨f0,fr⟩:=f2 b hb
    exact ⟨⟨by rw [aG (Nat.ne_of_lt (ltD b hb))];exact f0,fr⟩,by rw [hsz3];exact Nat.lt_succ_of_lt (ltD b hb)⟩
  refine wpAny_newFunctionEnv c.a85 (by intro y hy;simp at hy) (fun h₁ hns₁ hsb₁=>?_) c.kind
  dsimp only at hns₁ hsb₁ ⊢
  generalize hH3:s2.heap.push { cls := .type "list",data := .seq ([]:List Value).toArray }=h3 at *
  generalize hDe:s2.heap.objs.size=Da at *
  have alB:∀ b o,h3.get? b=some o→h₁.get? b=some o:=fun b o e=>hsb₁.extBut b o (Nat.ne_of_lt (Heap.lt_size e)) (Heap.get?_push_of_some _ e)
  show codeAny (model X.prog X.w) X.A (Code.compStart (elt.ListComp [{ target:=tgt,iter:=iter,ifs:=ifs,is_async:=0 }] scope pos) 0 (Value.ref it) (Value.ref Da) (compEnvC scope (jU X.env.cells scope.names []) h3.objs.size X.env))
    (RR (.ref Da) h3.objs.size) { s2 with heap:=h₁,toks:=s2.toks+([]:List (Str×Value)).length }
  have J0:=aoO (tk:=s2.toks+([]:List (Str×Value)).length) I3 c rfl hf3 hns₁ alB
  have st1:tn 0 h₁:=T.keep _ _ _ st2 fun b hb o e=>alB b o (by rw [← hH3];exact Heap.get?_push_of_some _ e)
  have g0:HR X.K (upd H2 Da (.lst [])) (aL G1 Da (.lst [])):=g1.put (u := .lst []) hD ⟨[],aD,.nil⟩
  have ts0:Ts H2 (upd H2 Da (.lst [])) := .same (aW hD)
  have loop:∀ s₄:Shared,Inv (f9 X xs scope h3.objs.size { s2 with heap:=h3,toks:=s2.toks } (upd H2 Da (.lst [])) fp pins) [] (nn xs σ) (upd H2 Da (.lst [])) s₄→tn 0 s₄.heap →
      codeAny (model X.prog X.w) X.A (.compLoop (.ListComp elt [⟨tgt,iter,ifs,0⟩] scope pos) 0 (.ref it) (.ref Da) (compEnvC scope (jU X.env.cells scope.names []) h3.objs.size X.env)) (RR (.ref Da) h3.objs.size) s₄:=by
    intro s₄ J4 st4
    refine ae5 (fun n s'=>∃ i ds H' G',Inv (f9 X xs scope h3.objs.size { s2 with heap:=h3,toks:=s2.toks } (upd H2 Da (.lst [])) fp pins) [] (nn xs σ) H' s'∧tn i s'.heap∧(∀ b∈fp,H' b=none)∧HR X.K H' G'∧P i ds G'∧i≤src.items.length∧n=src.items.length - i∧Ts H2 H') (fun n s' hI=>?_) src.items.length
      ⟨0,[],_,_,J4,st4,fun b hb=>(hf3 b hb).1.1,g0,p0,Nat.zero_le _,by simp,ts0⟩
    obtain ⟨i,ds,H',G',J,st,fr,g',p,hi',rfl,ts⟩:=hI
    obtain ⟨ok,hDl,hdl⟩:=pok i ds G' hi' p
    obtain ⟨sgo,ayX,auG⟩:=sj H' G' ts g' ok
    have fpX:∀ {H':Hp},(∀ b∈fp,H' b=none)→∀ b∈fp,jP (f9 X xs scope h3.objs.size { s2 with heap:=h3,toks:=s2.toks } (upd H2 Da (.lst [])) fp pins) [] H' b:=fun hn b hb=>by
      obtain ⟨⟨f0,f1,f2',f3,f4,f5⟩,lt⟩:=hf3 b hb
      refine ⟨hn b hb,Nat.ne_of_lt lt,fun hs=>?_,.inl hb,fun y d e=>f4 y d (eX e fun _ h=>by simp at h),fun p' hp'=>f5 p' (by simpa using hp')⟩
      rcases a4E I3 hs with z | z
      · exact f1 z
      · exact f2' z
    by_cases hlt:i < src.items.length
    · refine wpAny_mono (T.item (f9 X xs scope h3.objs.size { s2 with heap:=h3,toks:=s2.toks } (upd H2 Da (.lst [])) fp pins) rfl rfl rfl (fun h=>h) (fun _ h=>h) i [] s' (nn xs σ) H' (fun _ _=>False) J (fpX fr) st (sgo i hlt)) (fun r s5 ⟨u,hr,h5⟩=>?_) fun _ _ z=>z.elim
      subst hr
      obtain ⟨d0,ys,hd0,ey,ayZ⟩:∃ d ys,src.items[i]?=some d∧dv d=some ys∧tc (ys.map some++ρ) G' fun b G2=>if b=true then te (ys.map some++ρ) G2 fun y G3=>G3 Da=some (.lst ds)∧P (i+1) (ds++[y]) (aL G3 Da (.lst (ds++[y]))) else P (i+1) ds G2:=by
        have hd:src.items[i]?=some src.items[i]:=List.getElem?_eq_getElem hlt
        obtain ⟨ys,e,z⟩:=pst i _ ds G' hd p
        exact ⟨_,ys,hd,e,z⟩
      show wpAny _ _ (letOwnedTupleGo tgt (.ref it) u) _ _ s5
      refine wpAny_mono h5 (fun _ s6 ⟨vx,H6,I6,r6,y6,st6,fr6⟩=>?_) fun _ _ z=>z.elim
      obtain ⟨sm,d,hd,rd⟩:=ayX i vx H6 hlt y6
      have g':=g'.same sm
      have ts:=ts.trans (.same sm)
      obtain rfl:d0=d:=Option.some.inj (hd0.symm.trans hd)
      have I6':=I6.pinned (fpX fr6) (T.obj _ _ st6)
      refine wpAny_mono (hT _ _ _ _ _ _ _ s6 H6 vx u _ _ I6' r6 rd ey) (fun _ s7 ⟨vs,rvs,I7⟩=>?_) fun _ _ z=>z.elim
      have lv:vs.length=xs.length:=by rw [← rvs.length];exact hdv _ _ ey
      have ae6:∀ {s'':Shared} {σ'':St} {H'':Hp},Inv (f9 X xs scope h3.objs.size { s2 with heap:=h3,toks:=s2.toks } (upd H2 Da (.lst [])) fp pins) ([]++w5 fp s6.heap) σ'' H'' s''→tn (i+1) s''.heap∧∀ b∈fp,H'' b=none:=fun I''=>by
        refine ⟨T.keep _ _ _ st6 fun b hb o e=>(I''.pin (b,o) (List.mem_append_right _ (List.mem_append_right _ (o7 hb e)))).1,fun b hb=>?_⟩
        obtain ⟨o,e,_⟩:=T.obj _ _ st6 b hb
        exact (I''.pin (b,o) (List.mem_append_right _ (List.mem_append_right _ (o7 hb e)))).2.1
      have down:∀ {s'':Shared} {H'':Hp},Inv (f9 X xs scope h3.objs.size { s2 with heap:=h3,toks:=s2.toks } (upd H2 Da (.lst [])) fp pins) ([]++w5 fp s6.heap) (vs.map some++σ) H'' s''→Inv (f9 X xs scope h3.objs.size { s2 with heap:=h3,toks:=s2.toks } (upd H2 Da (.lst [])) fp pins) [] (nn xs σ) H'' s'':=fun I'' =>
        I''.uM.weak (by simp [nn,lv]) fun j v e=>by
          obtain ⟨j',rfl,e'⟩:=ae2 e
          rw [← lv,show vs.length=(vs.map some).length by simp,a9T]
          exact e'
      have sr7:SR X.K H6 (ys.map some++ρ) (vs.map some++σ):=ae4 (sr.mono (t1.trans ts)) rvs
      refine wpAny_mono (hc _ _ _ _ _ _ s7 (vs.map some++σ) H6 (fun b H8=>Ts H6 H8∧∃ G8,HR X.K H8 G8∧(if b=true then te (ys.map some++ρ) G8 fun y G3=>G3 Da=some (.lst ds)∧P (i+1) (ds++[y]) (aL G3 Da (.lst (ds++[y]))) else P (i+1) ds G8)) I7
        ⟨ys.map some++ρ,G',_,sr7,g',ayZ,fun b H8 G8 t8 g8 q8=>⟨t8,G8,g8,q8⟩⟩) (fun b s8 ⟨H8,I8,t8,G8,g8,q8⟩=>?_) fun _ _ z=>z.elim
      cases b with
      | false =>
        rw [if_neg (by decide)]
        have q8':P (i+1) ds G8:=by simpa using q8
        obtain ⟨a1,a2⟩:=ae6 I8
        exact ⟨src.items.length - (i+1),by omega,i+1,ds,H8,G8,down I8,a1,a2,g8,q8',hlt,rfl,ts.trans t8⟩
      | true =>
        rw [if_pos rfl]
        have q8':te (ys.map some++ρ) G8 fun y G3=>G3 Da=some (.lst ds)∧P (i+1) (ds++[y]) (aL G3 Da (.lst (ds++[y]))):=by simpa using q8
        refine wpAny_mono (he _ _ _ _ _ _ s8 (vs.map some++σ) H8 (fun vy H9=>Ts H8 H9∧∃ y G9,RD X.K H9 y vy∧HR X.K H9 G9∧G9 Da=some (.lst ds)∧P (i+1) (ds++[y]) (aL G9 Da (.lst (ds++[y])))) I8 ⟨ys.map some++ρ,G8,_,sr7.mono t8,g8,q8',fun vy H9 y G9 t9 r9 g9 q9=>⟨t9,y,G9,r9,g9,q9⟩⟩) (fun uy s9 ⟨vy,H9,I9,ry,t9,y,G9,ryd,g9,hG9,q9⟩=>?_) fun _ _ z=>z.elim
        obtain ⟨ws,hH9,rws⟩:=g9 Da _ hG9
        have auI:ws.length < sizeLine:=by rw [← rws.length];omega
        refine wpAny_mono (a2A (X:=f9 X xs scope h3.objs.size { s2 with heap:=h3,toks:=s2.toks } (upd H2 Da (.lst [])) fp pins) _ s9 (vs.map some++σ) H9 (.ref Da) [vy] (.ref Da) [uy] (fun _ H10=>H10=upd H9 Da (.lst (ws++[vy]))) I9 rfl (.cons ry .nil) ⟨Da,ws,vy,rfl,rfl,hH9,auI,rfl⟩) (fun _ s10 ⟨_,H10,I10,_,e10⟩=>?_) fun _ _ z=>z.elim
        subst e10
        obtain ⟨a1,a2⟩:=ae6 I10
        have tt:Ts H9 (upd H9 Da (.lst (ws++[vy]))) := .turn hH9 (fun _ z=>nomatch z) (fun _ _ z=>nomatch z)
        exact ⟨src.items.length - (i+1),by omega,i+1,ds++[y],_,_,down I10,a1,a2,g9.turn (u := .lst (ds++[y])) tt ⟨_,aD,(rws.append (.cons ryd .nil)).mono tt⟩,q9,hlt,rfl,((ts.trans t8).trans t9).trans tt⟩
    · have ein:i=src.items.length:=by omega
      subst ein
      refine wpAny_mono (T.done (f9 X xs scope h3.objs.size { s2 with heap:=h3,toks:=s2.toks } (upd H2 Da (.lst [])) fp pins) rfl rfl rfl (fun h=>h) (fun _ h=>h) _ [] s' (nn xs σ) H' (fun _ _=>False) J (fpX fr) st auG) (fun r s5 ⟨hr,J5⟩=>?_) fun _ _ z=>z.elim
      subst hr
      obtain ⟨m5,hn5,_⟩:=id J5.loc
      obtain ⟨G0,l0,q0⟩:=pend ds G' p
      have I5:Inv X pins σ H' s5:=aiP (tk:=s5.toks) I3 rfl hf3 J5 (Heap.SameBut.refl _ _)
      refine hRR Da _ s5 H' G0 I5 ⟨⟨m5,hn5⟩,J5.free,Nat.ne_of_gt I3.lt,I3.sz,fun y d e z=>?_,fun p hp z=>?_⟩ (t1.trans ts) (g'.le l0) q0
      · obtain ⟨w,o,ho,_⟩:=I3.cell y d e
        rw [z] at ho
        exact absurd (Heap.lt_size ho) (Nat.lt_irrefl _)
      · have:=(I3.pin p hp).1
        rw [z] at this
        exact absurd (Heap.lt_size this) (Nat.lt_irrefl _)
  exact codeAny_compStart_list (loop _ J0 st1) (T.self X.A 0 _ _ _ st1 (loop _ J0 st1))
def v9 (dv:D→Option (List D)) (ti:TI3) (tc:rZ) (te:bL):bL:=fun ρ G R=>ti ρ G fun src G1=>src.items.length < sizeLine∧∀ p,G1 p=none→∃ P:Nat→List D→Gp→Prop,P 0 [] (aL G1 p (.lst [])) ∧
  (∀ k ds G,k≤src.items.length→P k ds G→src.ok G∧G p=some (.lst ds)∧ds.length≤k) ∧
  (∀ k d ds G,src.items[k]?=some d→P k ds G→∃ ys,dv d=some ys∧tc (ys.map some++ρ) G fun b G2=>if b=true then te (ys.map some++ρ) G2 fun y G3=>G3 p=some (.lst ds)∧P (k+1) (ds++[y]) (aL G3 p (.lst (ds++[y]))) else P (k+1) ds G2) ∧
  ∀ ds G,P src.items.length ds G→∃ G0,Le G0 G∧R (.ref p) G0
def a86 (d:D):Option (List D):=some [d]
abbrev a87 (ti:TI3) (tc:rZ) (te:bL):bL:=v9 a86 ti tc te
def aiT (n:Nat) (d:D):Option (List D):=match d with
  | .tup ds=>if ds.length=n then some ds else none
  | _=>none
abbrev a9U (n:Nat) (ti:TI3) (tc:rZ) (te:bL):bL:=v9 (aiT n) ti tc te
theorem ae7 (d:D) (ds:List D) (h:a86 d=some ds):ds.length=[x].length:=by
  unfold a86 at h;cases h;rfl
theorem a9V {n:Nat} {d:D} {ds:List D} (h:aiT n d=some ds):d = .tup ds∧ds.length=n:=by
  unfold aiT at h
  split at h
  · split at h
    · rename_i e;cases h;exact ⟨rfl,e⟩
    · cases h
  · cases h
theorem a88 {N:List Str} (c:oA X xs scope) (hnd:X.N.Nodup):(xs++X.N).Nodup:=List.nodup_append.mpr ⟨c.nd,hnd,fun a ha b hb e=>c.out a ha (e ▸ hb)⟩
theorem aoP (c:oA X [x] scope) (hnd:X.N.Nodup) {C:Addr} {s:Shared} {H:Hp} {fp:List Addr} {pins:List (Addr×Obj)} {σ:St}:ae3 (f9 X [x] scope C s H fp pins) (.Name x px) [x] a86 σ:=by
  intro xC s' H' v u d ds I r rd e
  unfold a86 at e
  cases e
  have pgn:PG (f9 X [x] scope C s H fp pins) (.Name x px) (a9C 0):=a3I (a88 (N:=X.N) c hnd) rfl (.inl (lookup_relabel_local (c.var x (by simp)))) (.inr (lookup_relabel_local (c.var x (by simp))))
  refine wpAny_mono (pgn xC s' (nn [x] σ) H' v u (fun σ' H2=>σ'=[v].map some++σ∧H2=H') I r ⟨rfl,rfl⟩) (fun _ s2 ⟨σ2,H2,I2,e2,e3⟩=>?_) fun _ _ z=>z
  subst e2;subst e3
  exact ⟨[v],.cons rd .nil,I2⟩
theorem a9W (c:oA X xs scope) (hT:∀ C s H fp pins σ,ae3 (f9 X xs scope C s H fp pins) tgt xs dv σ) (hdv:∀ d ds,dv d=some ds→ds.length=xs.length) (hi:PI3 X tgt iter ti) (hc:∀ C s H fp pins,abS (f9 X xs scope C s H fp pins) ifs tc) (he:∀ C s H fp pins,bV (f9 X xs scope C s H fp pins) elt te)
    (hs:∀ y,foldedSetIterable iter X.env y=pure y):bV X (.ListComp elt [⟨tgt,iter,ifs,0⟩] scope pos) (v9 dv ti tc te):=by
  intro pins s σ H Q I h _tk
  obtain ⟨ρ,G,R,sr,g,q,kk⟩:=h
  rw [eval_ListComp]
  refine wpAny_comprehension_free (use:=none) rfl hs (nD fun y hy hf=>I.ok.has y.1 (c.frees y hy hf)) c.kind c.locs ?_
  refine cD (hi pins s σ H (fun J H1=>Ts H H1∧∃ src G1,HR X.K H1 G1∧a6A X.K H1 src J∧(src.items.length < sizeLine∧∀ p,G1 p=none→∃ P:Nat→List D→Gp→Prop,P 0 [] (aL G1 p (.lst [])) ∧
      (∀ k ds G,k≤src.items.length→P k ds G→src.ok G∧G p=some (.lst ds)∧ds.length≤k) ∧
      (∀ k d ds G,src.items[k]?=some d→P k ds G→∃ ys,dv d=some ys∧tc (ys.map some++ρ) G fun b G2=>if b=true then te (ys.map some++ρ) G2 fun y G3=>G3 p=some (.lst ds)∧P (k+1) (ds++[y]) (aL G3 p (.lst (ds++[y]))) else P (k+1) ds G2) ∧
      ∀ ds G,P src.items.length ds G→∃ G0,Le G0 G∧R (.ref p) G0)) I ⟨ρ,G,_,sr,g,q,fun src J H' G' t1 g1 sj q1=>⟨t1,src,G',g1,sj,q1⟩⟩) fun v s1 h1=>cD h1 fun itv s2 hz=>?_
  obtain ⟨it,fp,tn,J,H2,e,I2,T,st2,f2,t1,src,G1,g1,sj,hlen,body⟩:=hz
  subst e
  exact a2I (RR:=fun acc C=>compPost (model X.prog X.w) X.A X.xe none (EP X pins σ Q) acc C) c hT hdv hc he sr I2 T st2 f2 t1 g1 sj hlen body fun Da C s5 H' G0 I5 o ts g0 q0=>by
    obtain ⟨m,hn⟩:=o.ns
    exact ⟨m,hn,fun h' hs'=>⟨.ref Da,H',o.turn I5 hs',rfl,kk _ H' _ G0 ts (.ref Da) g0 q0⟩⟩
theorem aiU {y:Str} {i:Nat} {py spos:Pos} (c:oA X xs scope) (hT:∀ C s H fp pins σ,ae3 (f9 X xs scope C s H fp pins) tgt xs dv σ) (hdv:∀ d ds,dv d=some ds→ds.length=xs.length) (hnd:X.N.Nodup) (hy:X.N[i]?=some y) (hl:Loc X.env.scope y) (hf:X.fn y=true) (hi:PI3 X tgt iter ti) (hc:∀ C s H fp pins,abS (f9 X xs scope C s H fp pins) ifs tc) (he:∀ C s H fp pins,bV (f9 X xs scope C s H fp pins) elt te)
    (hs:∀ y,foldedSetIterable iter X.env y=pure y):PS3 X (.Assign [.Name y py] (.ListComp elt [⟨tgt,iter,ifs,0⟩] scope pos) spos) (bB i (v9 dv ti tc te)):=by
  have hsw:∃ b,swapsWith (.ListComp elt [⟨tgt,iter,ifs,0⟩] scope pos) (some (.Name y py)) spos.line X.env=pure b:=⟨_,rfl⟩
  obtain ⟨b,hsw⟩:=hsw
  cases b with
  | false=>exact al9 hnd hy hl (a9W c hT hdv hi hc he hs) hsw (.inl hf)
  | true =>
    intro pins s σ H F I h _tk
    obtain ⟨ρ,G,E,sr,g,q,d⟩:=h
    rw [exec_Assign_Name_used _ _ _ _ hsw]
    refine wpAny_bind (wpAny_standAt (wpAny_bind ?_))
    show wpAny _ X.A (do let _ ← comprehension (.ListComp elt [⟨tgt,iter,ifs,0⟩] scope pos) scope X.env _ (newList []) false (eval iter X.env) (some (assign (.Name y py) X.env))) _ _ s
    refine wpAny_bind (wpAny_mono (wpAny_comprehension_free (use:=some (assign (.Name y py) X.env)) (Q:=fun _ s'=>SP X pins F .next s') rfl hs (nD fun y hy hf=>I.ok.has y.1 (c.frees y hy hf)) c.kind c.locs ?_) (fun _ s' hq=>wpAny_pure (wpAny_pure hq)) fun _ _ e=>e)
    refine cD (hi pins s σ H (fun J H1=>Ts H H1∧∃ src G1,HR X.K H1 G1∧a6A X.K H1 src J∧(src.items.length < sizeLine∧∀ p,G1 p=none→∃ P:Nat→List D→Gp→Prop,P 0 [] (aL G1 p (.lst [])) ∧
        (∀ k ds G,k≤src.items.length→P k ds G→src.ok G∧G p=some (.lst ds)∧ds.length≤k) ∧
        (∀ k d ds G,src.items[k]?=some d→P k ds G→∃ ys,dv d=some ys∧tc (ys.map some++ρ) G fun b G2=>if b=true then te (ys.map some++ρ) G2 fun y G3=>G3 p=some (.lst ds)∧P (k+1) (ds++[y]) (aL G3 p (.lst (ds++[y]))) else P (k+1) ds G2) ∧
        ∀ ds G,P src.items.length ds G→∃ G0,Le G0 G∧E.nx (wH ρ i (.ref p)) G0)) I ⟨ρ,G,_,sr,g,q,fun src J H' G' t1 g1 sj q1=>⟨t1,src,G',g1,sj,q1⟩⟩) fun v s1 h1=>cD h1 fun itv s2 hz=>?_
    obtain ⟨it,fp,tn,J,H2,e,I2,T,st2,f2,t1,src,G1,g1,sj,hlen,body⟩:=hz
    subst e
    refine a2I (R:=fun z G0=>E.nx (wH ρ i z) G0) (RR:=fun acc C=>compPost (model X.prog X.w) X.A X.xe (some (assign (.Name y py) X.env)) (fun _ s'=>SP X pins F .next s') acc C) c hT hdv hc he sr I2 T st2 f2 t1 g1 sj hlen body fun Da C s5 H' G0 I5 o ts g0 q0=>?_
    show wpAny _ X.A (assign (.Name y py) X.env (.ref Da)) _ _ s5
    refine wpAny_assign_Name (a1U (v := .ref Da) I5 hnd hy hl rfl (fun s6 I6 ⟨a,hsb,ha⟩=>?_) (.inl hf))
    obtain ⟨m,hn⟩:=o.ns
    have hCa:C≠a:=by
      rcases ha with rfl | ha
      · exact o.loc
      · exact fun z=>o.cells y a ha z.symm
    have o6:aiS X pins H' C s6.heap:=⟨⟨m,hn.sameBut hsb hCa⟩,o.free,o.loc,o.young,o.cells,o.pins⟩
    refine ⟨m,hn.sameBut hsb hCa,fun h' hs'=>⟨_,H',o6.turn I6 hs',d.nx _ G0 _ H' ((sr.mono ts).set (.ref Da) i) g0 q0⟩⟩
end
end L2
namespace L2
open PySem PySem.Spec PyProof.Rows
abbrev TG3:=D→aQ→(aQ→Prop)→Prop
def upG (K:Fg) (t:TG3):TG:=fun v σ H Q=>∃ ρ d R,SR K H ρ σ∧RD K H d v∧t d ρ R∧∀ ρ' σ',SR K H ρ' σ'→R ρ'→Q σ' H
abbrev PG3 (X:Cx) (tg:Expr) (t:TG3):Prop:=PG X tg (upG X.K t)
def m9 (i:Nat):TG3:=fun d ρ Q=>Q (wH ρ i d)
def xG:aQ→List Nat→List D→aQ
  | ρ,i :: is,d :: ds=>xG (wH ρ i d) is ds
  | ρ,_,_=>ρ
def a2J (is:List Nat):TG3:=fun d ρ Q=>match d with
  | .tup ds=>ds.length=is.length∧Q (xG ρ is ds)
  | _=>False
def a2K:St→List Nat→List V→St
  | σ,i :: is,v :: vs=>a2K (σ.set i (some v)) is vs
  | σ,_,_=>σ
theorem SR.sets {K:Fg} {H:Hp}:∀ {is:List Nat} {ds:List D} {vs:List V} {ρ:aQ} {σ:St},bF K H ds vs→SR K H ρ σ→SR K H (xG ρ is ds) (a2K σ is vs)
  | [],_,_,_,_,_,s=>s
  | _ :: _,_,_,_,_,.nil,s=>s
  | i :: is,_,_,_,_,.cons h r,s=>SR.sets (is:=is) r (s.set h i)
section
variable {X:Cx}
theorem PG.imp {e:Expr} {t t':TG} (h:PG X e t) (k:∀ v σ H Q,t' v σ H Q→t v σ H Q):PG X e t':=fun pins s σ H v u Q I r q=>h pins s σ H v u Q I r (k _ _ _ _ q)
theorem aoQ {i:Nat} {x:Str} {pos:Pos} (hN:X.N.Nodup) (hi:X.N[i]?=some x) (hx:Loc X.env.scope x) (hf:X.fn x=true∨X.env.scope.names.lookup x=some .local):PG3 X (.Name x pos) (m9 i) :=
  PG.imp (a3I hN hi hx hf) fun v σ H Q h=>by
  obtain ⟨ρ,d,R,s,r,q,k⟩:=h
  exact k _ _ (s.set r i) q
structure aiV (X:Cx) (e:Expr) (i:Nat):Prop where
  ex:∃ x pos,e = .Name x pos∧X.N[i]?=some x∧Loc X.env.scope x∧(X.fn x=true∨X.env.scope.names.lookup x=some .local)
def aoR:List Nat→TGs
  | []=>as9
  | i :: is=>akW (a9C i) (aoR is)
theorem a4F:∀ {is:List Nat} {vs:List V} {σ:St} {H:Hp} {Q:St→Hp→Prop},vs.length=is.length→Q (a2K σ is vs) H→aoR is vs σ H Q
  | [],[],_,_,_,_,q=>⟨rfl,q⟩
  | [],_ :: _,_,_,_,h,_=>by simp at h
  | _ :: _,[],_,_,_,h,_=>by simp at h
  | i :: is,v :: vs,σ,H,Q,h,q=>⟨v,vs,rfl,a4F (is:=is) (by simpa using h) q⟩
theorem wQ (hN:X.N.Nodup):∀ {es:List Expr} {is:List Nat},Two (aiV X) es is→PGs X es (aoR is)∧(assignEach es X.env).length=is.length∧(assignEach es X.env).findIdx? (·.1)=none
  | _,_,.nil=>⟨ahC,rfl,rfl⟩
  | _,_,.cons (a:=e) (b:=i) h r=>by
    obtain ⟨x,pos,rfl,h1,h2,h3⟩:=h.ex
    obtain ⟨a1,a2,a3⟩:=wQ hN r
    refine ⟨acW (a3I hN h1 h2 h3) a1 rfl,?_,?_⟩
    · show (assignEach _ X.env).length+1=_
      rw [a2];rfl
    · show ((false,assign (.Name x pos) X.env) :: assignEach _ X.env).findIdx? (·.1)=none
      rw [List.findIdx?_cons]
      simp [a3]
theorem alC {es:List Expr} {is:List Nat} {k:Nat} {pos:Pos} (hN:X.N.Nodup) (hc:X.calm=true) (h:Two (aiV X) es is):PG3 X (.Tuple es k pos) (a2J is):=by
  obtain ⟨a1,a2,a3⟩:=wQ hN h
  refine PG.imp (acX hc a1 a2 a3) fun v σ H Q h=>?_
  obtain ⟨ρ,d,R,s,r,q,k⟩:=h
  cases r with
  | @tup a vs ds hq rv =>
    have q':ds.length=is.length∧R (xG ρ is ds):=q
    exact ⟨a,vs,rfl,hq,by rw [← rv.length];exact q'.1,a4F (by rw [← rv.length];exact q'.1) (k _ _ (SR.sets rv s) q'.2)⟩
  | _=>exact False.elim q
theorem a2L:∀ (xs:List Str) (vs done:List V) (σ:St),vs.length=xs.length→a2K (done.map some++nn xs σ) (List.range' done.length xs.length) vs=(done++vs).map some++σ
  | [],[],done,σ,_=>by simp [a2K,nn]
  | [],_ :: _,_,_,h=>by simp at h
  | _ :: _,[],_,_,h=>by simp at h
  | x :: xs,v :: vs,done,σ,h=>by
    have ih:=a2L xs vs (done++[v]) σ (by simpa using h)
    have e1:(done.map some++nn (x :: xs) σ).set done.length (some v)=(done++[v]).map some++nn xs σ:=by
      simp [nn,List.set_append]
    show a2K ((done.map some++nn (x :: xs) σ).set done.length (some v)) (List.range' (done.length+1) xs.length) vs=_
    rw [e1]
    have e2:(done++[v]).length=done.length+1:=by simp
    rw [e2] at ih
    rw [ih]
    simp
theorem aoS {xs:List Str} {scope:Scope} {es:List Expr} {k:Nat} {pos:Pos} (c:oA X xs scope) (hnd:X.N.Nodup) (hc:X.calm=true) (hes:Two (fun e x=>∃ p,e=Expr.Name x p) es xs) {C:Addr} {s:Shared} {H:Hp} {fp:List Addr} {pins:List (Addr×Obj)} {σ:St}:ae3 (f9 X xs scope C s H fp pins) (.Tuple es k pos) xs (aiT xs.length) σ:=by
  intro xC s' H' v u d ds I r rd e
  obtain ⟨rfl,hl⟩:=a9V e
  have nms:∀ (es':List Expr) (ys done:List Str),Two (fun e x=>∃ p,e=Expr.Name x p) es' ys→xs=done++ys→Two (aiV (f9 X xs scope C s H fp pins)) es' (List.range' done.length ys.length):=by
    intro es' ys
    induction ys generalizing es' with
    | nil=>intro done t _;cases t;exact .nil
    | cons y ys ih =>
      intro done t e
      cases t with
      | cons h t =>
        obtain ⟨p,rfl⟩:=h
        have z:=ih _ (done++[y]) t (by simp [e])
        have e2:(done++[y]).length=done.length+1:=by simp
        rw [e2] at z
        refine .cons ⟨y,p,rfl,?_,.inl (lookup_relabel_local (c.var y (by simp [e]))),.inr (lookup_relabel_local (c.var y (by simp [e])))⟩ z
        show (xs++X.N)[done.length]?=some y
        rw [e]
        simp
  obtain ⟨a1,a2,a3⟩:=wQ (X:=f9 X xs scope C s H fp pins) (a88 (N:=X.N) c hnd) (nms es xs [] hes rfl)
  cases rd with
  | @tup a vs _ hq rv =>
    have lv:vs.length=xs.length:=by rw [← rv.length];exact hl
    have pgt:=acX (X:=f9 X xs scope C s H fp pins) (k:=k) (pos:=pos) (show (f9 X xs scope C s H fp pins).calm=true from hc) a1 a2 a3
    refine wpAny_mono (pgt xC s' (nn xs σ) H' (.ref a) u (fun σ' H2=>σ'=vs.map some++σ∧H2=H') I r ⟨a,vs,rfl,hq,by simpa using lv,a4F (by simpa using lv) ⟨?_,rfl⟩⟩) (fun _ s2 ⟨σ2,H2,I2,e2,e3⟩=>?_) fun _ _ z=>z
    · have:=a2L xs vs [] σ lv
      simpa using this
    · subst e2;subst e3
      exact ⟨vs,rv,I2⟩
def ae8 (K:Fg) (src:Src) (J:It):Prop:=∀ H2 G2,HR K H2 G2→src.ok G2 →
  (∀ i,i < src.items.length→J.go i H2)∧(∀ i v H',i < src.items.length→J.yld i H2 v H'→Same H2 H'∧∃ d,src.items[i]?=some d∧RD K H' d v)∧J.stop src.items.length H2
def az2 (K:Fg) (t:TI3):TI:=fun σ H Q=>∃ ρ G R,SR K H ρ σ∧HR K H G∧t ρ G R∧∀ src J H' G',Ts H H'→HR K H' G'→ae8 K src J→R src G'→Q J H'
abbrev PIS (X:Cx) (tg iter:Expr) (t:TI3):Prop:=PI X tg iter (az2 X.K t)
def a89 (te:bL):TI3:=fun ρ G R=>te ρ G fun x G1=>match x with
  | .ref p=>(match aZ G1 p with
    | some xs=>R (.lst p xs) G1
    | none=>False)
  | .str z=>R (.imm (signs z)) G1
  | .tup xs=>xs.all scD=true∧∀ a,(G1 a=none∨G1 a=some (.tpl xs))→R (.tpl a xs) (aL G1 a (.tpl xs))
  | _=>False
theorem auK {K:Fg} {H:Hp} {d d':D} {v:V} (h:scD d=true) (r:RD K H d v) (r':RD K H d' v):d'=d:=by
  cases r with
  | non=>cases r';rfl
  | bl b=>cases r';rfl
  | int i=>cases r';rfl
  | str x=>cases r';rfl
  | _=>exact Bool.noConfusion (show false=true from h)
theorem ae9 {K:Fg} {H:Hp}:∀ {ds ds':List D} {vs:List V},ds.all scD=true→bF K H ds vs→bF K H ds' vs→ds'=ds
  | _,_,_,_,.nil,.nil=>rfl
  | d :: ds,d' :: ds',_,h,.cons r rr,.cons r' rr'=>by
    rw [List.all_cons,Bool.and_eq_true] at h
    rw [auK h.1 r r',ae9 h.2 rr rr']
theorem aeA {pins:List (Addr×Obj)} {σ:St} {H:Hp} {s:Shared} {G:Gp} {a:Addr} {xs:List V} {o:GO} (I:Inv X pins σ H s) (g:HR X.K H G) (hq:pF X.K H a xs) (e:G a=some o):∃ ds,o = .tpl ds∧bF X.K H ds xs:=by
  have no:∀ u,H a=some u→(∀ ys,u ≠ .tup ys)→(∀ ob ys,u ≠ .mV ob (.tup ys))→False:=fun u hu h1 h2=>by
    rcases hq with (q | ⟨ob,q⟩) | ⟨ob,_,_,q,_⟩
    · rw [hu] at q;exact h1 _ (Option.some.inj q)
    · rw [hu] at q;exact h2 _ _ (Option.some.inj q)
    · have:=qP I a ob q;rw [hu] at this;cases this
  have z:=g a o e
  cases o with
  | lst ds=>obtain ⟨_,q,_⟩:=z;exact (no _ q (fun _ w=>nomatch w) (fun _ _ w=>nomatch w)).elim
  | rol ds =>
    obtain ⟨_,q,_⟩:=z
    obtain ⟨_,_,⟨o1,n1,e1,c1,_⟩,_⟩:=I.list q
    obtain ⟨_,_,⟨o2,e2,c2,_⟩,_⟩:=I.tuple hq
    rw [e1] at e2;cases e2
    rw [c1] at c2;exact absurd c2 (by decide)
  | iI t kvs=>rcases z with ⟨_,_,q,_⟩ | ⟨_,_,q,_⟩ <;> exact (no _ q (fun _ w=>nomatch w) (fun _ _ w=>nomatch w)).elim
  | ins C fs=>obtain ⟨_,_,q,_⟩:=z;exact (no _ q (fun _ w=>nomatch w) (fun _ _ w=>nomatch w)).elim
  | exn C=>obtain ⟨_,_,q,_⟩:=z;exact (no _ q (fun _ w=>nomatch w) (fun _ _ w=>nomatch w)).elim
  | rdc ob t kvs=>rcases z with ⟨_,_,q,_⟩ | ⟨_,_,q,_⟩ <;> exact (no _ q (fun _ w=>nomatch w) (fun _ _ w=>nomatch w)).elim
  | tpl ds=>obtain ⟨ys,q,r⟩:=z;exact ⟨ds,rfl,by rw [← I.vZ q hq];exact r⟩
  | kst ks=>obtain ⟨_,_,_,q,_⟩:=z;exact (no _ q (fun _ w=>nomatch w) (fun _ _ w=>nomatch w)).elim
  | nst ks=>obtain ⟨_,_,_,q,_⟩:=z;exact (no _ q (fun _ w=>nomatch w) (fun _ _ w=>nomatch w)).elim
  | tab q p=>obtain ⟨_,q,_⟩:=z;exact (no _ q (fun _ w=>nomatch w) (fun _ _ w=>nomatch w)).elim
  | clo c d=>obtain ⟨_,_,_,_,_,_,_,_,q,_⟩:=z;exact (no _ q (fun _ w=>nomatch w) (fun _ _ w=>nomatch w)).elim
theorem aiW {pins:List (Addr×Obj)} {σ:St} {H:Hp} {s:Shared} {G:Gp} {a:Addr} {xs:List V} {ds:List D} (I:Inv X pins σ H s) (g:HR X.K H G) (hq:pF X.K H a xs) (rv:bF X.K H ds xs) (sc:ds.all scD=true) :
    (G a=none∨G a=some (.tpl ds))∧HR X.K H (aL G a (.tpl ds)):=by
  refine ⟨?_,fun b o e=>?_⟩
  · cases e:G a with
    | none=>exact .inl rfl
    | some o=>obtain ⟨ds',rfl,r⟩:=aeA I g hq e;exact .inr (by rw [ae9 sc rv r])
  · by_cases hb:b=a
    · subst hb;rw [aF] at e;cases e;exact ⟨xs,hq,rv⟩
    · rw [aP hb] at e;exact g b o e
theorem aeB {K:Fg} {p:Addr} {xs:List D}:ae8 K (.tpl p xs) (Itt K p):=fun H2 G2 g ok=>by
  obtain ⟨vs,hq,rv⟩:=g p _ ok
  exact a6C hq rv H2 G2 (.refl _) g trivial
theorem abU {K:Fg} {p:Addr} {xs:List D}:ae8 K (.lst p xs) (Itl K p):=fun H2 G2 g ok=>a2H (H1:=H2) H2 G2 (.refl _) g ok
theorem a6E {K:Fg} {z:Str}:ae8 K (.imm (signs z)) (Its z):=fun H2 G2 g ok=>zO (H1:=H2) H2 G2 (.refl _) g ok
theorem aeC {K:Fg} {lo:Int} {n:Nat}:ae8 K (.imm ((List.range n).map fun (i:Nat) => .int (lo+(i:Int)))) (Itr lo n):=fun H2 G2 g ok=>a6D (H1:=H2) H2 G2 (.refl _) g ok
theorem aoT {tg l:Expr} {te:bL} (hl:bV X l te):PIS X tg l (a89 te):=by
  intro pins s σ H R I h _tk
  obtain ⟨ρ,G,R3,sr,g,q,k⟩:=h
  refine cD (hl pins s σ H (fun v H1=>Ts H H1∧∃ x G1,RD X.K H1 x v∧HR X.K H1 G1∧(match x with
    | .ref p=>(match aZ G1 p with
      | some xs=>R3 (.lst p xs) G1
      | none=>False)
    | .str z=>R3 (.imm (signs z)) G1
    | .tup xs=>xs.all scD=true∧∀ a,(G1 a=none∨G1 a=some (.tpl xs))→R3 (.tpl a xs) (aL G1 a (.tpl xs))
    | _=>False)) I ⟨ρ,G,_,sr,g,q,fun v H1 x G1 t1 r g1 q1=>⟨t1,x,G1,r,g1,q1⟩⟩) fun v s1 ⟨x,H1,I1,r1,t1,d,G1,rd,g1,q1⟩=>?_
  cases rd with
  | ref a =>
    have q1':(match aZ G1 a with
      | some xs=>R3 (.lst a xs) G1
      | none=>False):=q1
    split at q1'
    · rename_i xs e
      cases r1
      obtain ⟨vs,hq,rv⟩:=bR g1 e
      obtain ⟨its,rv',p,hz⟩:=I1.list hq
      refine wpAny_pyIter_list p.isList ?_
      refine ⟨s1.heap.objs.size,[s1.heap.objs.size],_,_,H1,rfl,I1.kept (t':=s1.toks) fun b o e=>Heap.get?_push_of_some _ e,a1V a _,⟨_,Heap.get?_push_size _ rfl,rfl,rfl⟩,fun b hb=>?_,k _ _ H1 G1 t1 g1 abU q1'⟩
      have e:b=s1.heap.objs.size:=by simpa using hb
      subst e
      exact I1.yS (Nat.le_refl _) (I1.hok.fresh (Nat.le_refl _))
    · exact q1'.elim
  | str z =>
    obtain ⟨t,rfl⟩:=r1
    cases ha:z.cps.all (· < 128)
    · refine wpAny_pyIter_wide ha ?_
      refine ⟨s1.heap.objs.size,[s1.heap.objs.size],_,_,H1,rfl,I1.kept (t':=s1.toks) fun b o e=>Heap.get?_push_of_some _ e,a2G _ z t,?_,fun b hb=>?_,k _ _ H1 G1 t1 g1 a6E q1⟩
      · rw [Nat.zero_min];exact ⟨_,Heap.get?_push_size _ rfl,rfl,rfl⟩
      · have e:b=s1.heap.objs.size:=by simpa using hb
        subst e
        exact I1.yS (Nat.le_refl _) (I1.hok.fresh (Nat.le_refl _))
    · refine wpAny_pyIter_ascii ha ?_
      refine ⟨s1.heap.objs.size,[s1.heap.objs.size],_,_,H1,rfl,I1.kept (t':=s1.toks) fun b o e=>Heap.get?_push_of_some _ e,a2F _ z t,?_,fun b hb=>?_,k _ _ H1 G1 t1 g1 a6E q1⟩
      · rw [Nat.zero_min];exact ⟨_,Heap.get?_push_size _ rfl,rfl,rfl⟩
      · have e:b=s1.heap.objs.size:=by simpa using hb
        subst e
        exact I1.yS (Nat.le_refl _) (I1.hok.fresh (Nat.le_refl _))
  | @tup a vs xs hq rv =>
    cases r1
    obtain ⟨its,rv',p,hz⟩:=I1.tuple hq
    obtain ⟨sc,q1⟩:=q1
    obtain ⟨hG,g2⟩:=aiW I1 g1 hq rv sc
    refine wpAny_pyIter_tuple (show s1.heap.IsTuple a its.toArray from p) ?_
    refine ⟨s1.heap.objs.size,[s1.heap.objs.size],_,_,H1,rfl,I1.kept (t':=s1.toks) fun b o e=>Heap.get?_push_of_some _ e,yU a _,⟨_,Heap.get?_push_size _ rfl,rfl,rfl⟩,fun b hb=>?_,k _ _ H1 _ t1 g2 aeB (q1 a hG)⟩
    have e:b=s1.heap.objs.size:=by simpa using hb
    subst e
    exact I1.yS (Nat.le_refl _) (I1.hok.fresh (Nat.le_refl _))
  | _=>exact q1.elim
theorem aiX {tg a:Expr} {ta:lO} {p pos:Pos} (hg:Gl X "range") (hm:X.mg "range" = none) (ha:PA3 X [a] ta) (hs:starEach [a] X.env=[(false,eval a X.env)]):PIS X tg (.Call (.Name "range" p) [a] [] pos) (rB ta) :=
  PI.imp (a1W hg hm ha hs) fun σ H Q h=>by
  obtain ⟨ρ,G,R,s,g,q,k⟩:=h
  refine ⟨ρ,G,_,s,g,q,fun vs H1 ds G1 t1 r g1 h1=>?_⟩
  cases r with
  | nil=>exact h1.elim
  | cons r rr =>
    cases rr with
    | cons _ _=>cases r <;> exact False.elim h1
    | nil =>
      cases r with
      | int j =>
        obtain ⟨l1,l2,h1⟩:=h1
        refine ⟨j,rfl,l1,l2,k _ _ H1 G1 t1 g1 ?_ h1⟩
        unfold a1G
        rw [show (j - 0).toNat=j.toNat by omega]
        exact aeC
      | _=>exact False.elim h1
def mD (ti:TI3) (tg:TG3) (tb:bK):bK:=fun F ρ G=>ti ρ G fun src G1=>∃ P:Nat→aQ→Gp→Prop,P 0 ρ G1∧(∀ k ρ G,k≤src.items.length→P k ρ G→src.ok G) ∧
  (∀ k d ρ G,src.items[k]?=some d→P k ρ G→tg d ρ fun ρ2=>tb { F with nx:=P (k+1),ct:=P (k+1),bk:=F.nx } ρ2 G)∧∀ ρ G,P src.items.length ρ G→F.nx ρ G
theorem aoU {tgt iter:Expr} {body:List Stmt} {ti:TI3} {tg:TG3} {tb:bK} {pos:Pos} (hp:PassesOwn (model X.prog X.w) X.A X.env X.xe) (hi:PIS X tgt iter ti) (hg:PG3 X tgt tg) (hb:uX X body tb)
    (hs:∀ x,foldedSetIterable iter X.env x=pure x):PS3 X (.For tgt iter body [] pos) (mD ti tg tb):=PS.imp (amO hp hi hg hb hs) fun F σ H h=>by
  obtain ⟨ρ,G,E,s,g,q,d⟩:=h
  refine ⟨ρ,G,fun src G1=>∃ P:Nat→aQ→Gp→Prop,P 0 ρ G1∧(∀ k ρ G,k≤src.items.length→P k ρ G→src.ok G) ∧
    (∀ k d ρ G,src.items[k]?=some d→P k ρ G→tg d ρ fun ρ2=>tb { E with nx:=P (k+1),ct:=P (k+1),bk:=E.nx } ρ2 G)∧∀ ρ G,P src.items.length ρ G→E.nx ρ G,s,g,q,fun src J H1 G1 t1 g1 sj ⟨P,p0,pok,pst,pend⟩=>?_⟩
  refine adR (K:=X.K) (n:=src.items.length) (fun k σ2 H2=>∃ ρ' G',SR X.K H2 ρ' σ2∧HR X.K H2 G'∧P k ρ' G') ⟨ρ,G1,s.mono t1,g1,p0⟩ (fun σ2 H2 ⟨ρ',G',s2,g2,p⟩=>?_) (fun k σ2 H2 hk ⟨ρ',G',s2,g2,p⟩=>?_) (fun k y σ2 H2 H3 hk ⟨ρ',G',s2,g2,p⟩ hy=>?_)
    (fun σ2 H2 ⟨ρ',G',s2,g2,p⟩=>d.nx ρ' G' σ2 H2 s2 g2 (pend ρ' G' p))
  · exact (sj H2 G' g2 (pok _ ρ' G' (Nat.le_refl _) p)).2.2
  · exact (sj H2 G' g2 (pok _ ρ' G' (Nat.le_of_lt hk) p)).1 k hk
  · obtain ⟨sm,dk,e1,e2⟩:=(sj H2 G' g2 (pok _ ρ' G' (Nat.le_of_lt hk) p)).2.1 k y H3 hk hy
    refine ⟨ρ',dk,_,s2.mono (.same sm),e2,pst k dk ρ' G' e1 p,fun ρ2 σ3 s3 q3=>?_⟩
    exact ⟨ρ2,G',_,s3,g2.same sm,q3,⟨fun ρ4 G4 σ4 H4 s4 g4 q4=>⟨ρ4,G4,s4,g4,q4⟩,d.rt,d.nx,fun ρ4 G4 σ4 H4 s4 g4 q4=>⟨ρ4,G4,s4,g4,q4⟩⟩⟩
end
end L2
namespace L2
open PySem PySem.Spec PyProof.Rows
def az3:D→Bool
  | .bl _=>true
  | _=>false
def az4:D→Bool
  | .bl b=>b
  | _=>false
def aAN:List D→Gp→dG→Prop:=fun xs G R=>match xs with
  | [.ref q]=>(match aZ G q with
    | some ds=>ds.all az3=true∧R (.bl (ds.all az4)) G
    | none=>False)
  | _=>False
section
variable {X:Cx}
def lV:List D→Option (List Str)
  | []=>some []
  | .str z :: r=>(lV r).map (z :: ·)
  | _=>none
def u5:xU:=fun x xs G R=>match x,xs with
  | .str z,[.ref q]=>(match (aZ G q).bind lV with
    | some ys=>(ys.map (·.length)).sum+ys.length * z.length≤16777216∧R (.str (Txt.join z ys)) G
    | none=>False)
  | _,_=>False
theorem vA {K:Fg} {H:Hp}:∀ {ds:List D} {vs:List V} {us:List Value} {ys:List Str},bF K H ds vs→Vals vs us→lV ds=some ys→StrsAre us ys
  | [],_,_,_,.nil,.nil,e=>by cases e;exact .nil
  | .str z :: r,_,_,ys,.cons (.str _) rr,.cons hu hr,e=>by
    unfold lV at e
    cases q:lV r with
    | none=>rw [q] at e;cases e
    | some zs =>
      rw [q] at e
      cases e
      obtain ⟨t,rfl⟩:=hu
      exact .cons z t (vA rr hr q)
  | .non :: _,_,_,_,_,_,e=>by cases e
  | .bl _ :: _,_,_,_,_,_,e=>by cases e
  | .int _ :: _,_,_,_,_,_,e=>by cases e
  | .tup _ :: _,_,_,_,_,_,e=>by cases e
  | .ref _ :: _,_,_,_,_,_,e=>by cases e
  | .ty _ :: _,_,_,_,_,_,e=>by cases e
theorem aeD:rA X "str.join" u5:=fun pins s σ H x xs vx vs u us G R Q I rx rs ru rv g q k=>by
  cases rx with
  | str z =>
    cases rs with
    | nil=>exact False.elim q
    | cons r rr =>
      cases rr with
      | cons _ _=>cases r <;> exact False.elim q
      | nil =>
        cases r with
        | ref a =>
          obtain ⟨t,rfl⟩:=ru
          obtain ⟨u2,rfl,ru2⟩:=vals1 rv
          cases ru2
          have q':(match (aZ G a).bind lV with
            | some ys=>(ys.map (·.length)).sum+ys.length * z.length≤16777216∧R (.str (Txt.join z ys)) G
            | none=>False):=q
          split at q'
          · rename_i ys e1
            obtain ⟨ds,e2,e3⟩:=Option.bind_eq_some_iff.mp e1
            obtain ⟨ws,hq,r1⟩:=bR g e2
            obtain ⟨its,rv',p,hz⟩:=I.list hq
            exact join_list p.isList (vA r1 rv' e3) q'.1 fun t' kk=>⟨.str _,H,I.tok kk,⟨t',rfl⟩,k _ H _ G (.refl H) (.str _) g q'.2⟩
          · exact q'.elim
        | _=>exact False.elim q
  | _ =>
    cases rs with
    | nil=>exact False.elim q
    | cons r rr=>cases rr <;> cases r <;> exact False.elim q
end
end L2
namespace L2
open PySem PySem.Spec PyProof.Rows
section
variable {X:Cx} {pos:Pos}
def a4G (is:List Nat) (te:bL):bK:=fun F ρ G=>te ρ G fun d G1=>a2J is d ρ fun ρ2=>F.nx ρ2 G1
theorem aoV {es:List Expr} {is:List Nat} {k:Nat} {tp:Pos} {e:Expr} {te:bL} (hg:PG3 X (.Tuple es k tp) (a2J is)) (he:bV X e te) (hs:swapsWithSole [.Tuple es k tp] e pos.line X.env=pure false) (hw:swappedStores [.Tuple es k tp] e X.env=pure none)
    (h1:(assignEach [.Tuple es k tp] X.env).map (·.2)=[assign (.Tuple es k tp) X.env]):PS3 X (.Assign [.Tuple es k tp] e pos) (a4G is te):=PS.imp (amL he hg hs hw h1) fun F σ H h=>by
  obtain ⟨ρ,G,E,s,g,q,d⟩:=h
  exact ⟨ρ,G,_,s,g,q,fun v H' x G' t1 r g1 h=>⟨ρ,x,_,s.mono t1,r,h,fun ρ' σ' s' q'=>d.nx ρ' G' σ' H' s' g1 q'⟩⟩
def yD (c:rZ) (tb:bK):bK:=fun F ρ G=>∃ W:Nat→aQ→Gp→Prop,(∃ m,W m ρ G)∧∀ m ρ G,W m ρ G→c ρ G fun b G1=>if b=true then tb { F with nx:=fun ρ' G'=>∃ m',m' < m∧W m' ρ' G',ct:=fun ρ' G'=>∃ m',m' < m∧W m' ρ' G',bk:=F.nx } ρ G1 else F.nx ρ G1
theorem aiY {c:Expr} {body:List Stmt} {tc:rZ} {tb:bK} (hp:PassesOwn (model X.prog X.w) X.A X.env X.xe) (hc:PT3 X c tc) (hb:uX X body tb):PS3 X (.While c body [] pos) (yD tc tb):=PS.imp (acY hp hc hb) fun F σ H h=>by
  obtain ⟨ρ,G,E,s,g,⟨W,⟨m0,w0⟩,turn⟩,d⟩:=h
  refine ⟨fun m σ H=>∃ ρ G,SR X.K H ρ σ∧HR X.K H G∧W m ρ G,⟨m0,ρ,G,s,g,w0⟩,fun m σ1 H1 ⟨ρ1,G1,s1,g1,w1⟩=>⟨ρ1,G1,_,s1,g1,turn m ρ1 G1 w1,fun b H2 G2 t2 g2 q2=>?_⟩⟩
  cases b with
  | true =>
    rw [if_pos rfl]
    rw [if_pos rfl] at q2
    refine ⟨fun σ' H'=>∃ ρ' G',SR X.K H' ρ' σ'∧HR X.K H' G'∧∃ m',m' < m∧W m' ρ' G',fun σ' H' ⟨ρ',G',s',g',m',hm,w'⟩=>⟨m',hm,ρ',G',s',g',w'⟩,ρ1,G2,_,s1.mono t2,g2,q2,?_⟩
    exact ⟨fun ρ' G' σ' H' s' g' q'=>⟨ρ',G',s',g',q'⟩,d.rt,d.nx,fun ρ' G' σ' H' s' g' q'=>⟨ρ',G',s',g',q'⟩⟩
  | false=>exact d.nx _ _ _ _ (s1.mono t2) g2 (by simpa using q2)
end
section
variable {X:Cx}
end
end L2
namespace L2
open PySem PySem.Spec PyProof.Rows
def ok2 (G:Gp) (x y:D):Bool:=match x,y with
  | .ref p,.ref q=>(match aZ G p,aZ G q with
    | some xs,some ys=>xs.all (aO 17)&&ys.all (aO 17)
    | _,_=>false)
  | x,y=>aO 18 x&&aO 18 y
def eq2 (G:Gp) (x y:D):Bool:=match x,y with
  | .ref p,.ref q=>(match aZ G p,aZ G q with
    | some xs,some ys=>j4 xs ys
    | _,_=>false)
  | x,y=>eqP x y
def aoW (G:Gp):List D→List D→Bool
  | x :: xs,y :: ys=>ok2 G x y&&aoW G xs ys
  | _,_=>true
def aoX (G:Gp):List D→List D→Bool
  | [],[]=>true
  | x :: xs,y :: ys=>eq2 G x y&&aoX G xs ys
  | _,_=>false
section
variable {X:Cx}
def auL (G:Gp) (x y:D) (k:Bool→Prop):Prop:=match x,y with
  | .tup xs,.tup ys=>aoW G xs ys=true∧k (aoX G xs ys)
  | .ref a,.ref b=>(match aZ G a,aZ G b with
    | some xs,some ys=>aoW G xs ys=true∧k (aoX G xs ys)
    | _,_=>False)
  | _,_=>False
def auM:R3:=fun x y G R=>auL G x y fun b=>R (.bl b) G
def auN:R3:=fun x y G R=>auL G x y fun b=>R (.bl (!b)) G
def a2M (x:D) (G:Gp) (f:Addr→List D→Prop):Prop:=match x with
  | .ref p=>(match G p with
    | some (.lst ds)=>f p ds
    | _=>False)
  | _=>False
theorem a6F {K:Fg} {H:Hp} {x:D} {vx:V} {G:Gp} {f:Addr→List D→Prop} (rx:RD K H x vx) (g:HR K H G) (h:a2M x G f):∃ p ds xs,x = .ref p∧vx = .ref p∧G p=some (.lst ds)∧H p=some (.lst xs)∧bF K H ds xs∧f p ds:=by
  unfold a2M at h
  split at h
  · rename_i p
    split at h
    · rename_i ds e
      cases rx
      obtain ⟨xs,e1,r⟩:=g p _ e
      exact ⟨p,ds,xs,rfl,rfl,e,e1,r,h⟩
    · exact h.elim
  · exact h.elim
end
end L2
namespace L2
open PySem PySem.Spec PyProof.Rows
section
variable {X:Cx} {C:Addr} {bmB bmN:List Value} {B Bn newId nid initId inN:String} {x:Str} {np cpos:Pos} {e:Expr} {es:List Expr} {t:lO}
def aeE (C:Addr) (t:lO):bL:=fun ρ G R=>t ρ G fun ds G1=>ds.length≤sizeLine∧∀ x,G1 x=none→R (.ref x) (aL G1 x (.exn C))
theorem aeF {pins:List (Addr×Obj)} {σ:St} {H:Hp} {s:Shared} {h':Heap} {x:Addr} {us:List Value} (I:Inv X pins σ H s) (hm:Heap.MadeExcOf s.heap h' x (.ref C) us) :
    ∃ o vs,H x=none∧Inv X pins σ (upd H x (.mV o (.ext (a5V C x)))) { s with heap:=h' }∧o.data = .fields vs∧vs[2]?=some .none:=by
  obtain ⟨t,e1,_,_⟩:=hm.there
  have nxH:H x=none:=adU I.hok hm.new
  refine ⟨{ cls := .ref C,data := .fields #[.ref t,.none,.none,.none,.bool false,.none] },#[.ref t,.none,.none,.none,.bool false,.none],nxH,?_,rfl,rfl⟩
  generalize ho:({ cls := .ref C,data := .fields #[.ref t,.none,.none,.none,.bool false,.none] }:Obj)=o at e1
  have sn:Same H (upd H x (.mV o (.ext (a5V C x)))):=aW nxH
  have nst:∀ b u,s.heap.get? b=some u→b≠x:=fun b u e z=>by subst z;rw [hm.new] at e;cases e
  refine I.call' (ch:=[]) (s':={ s with heap:=h' }) rfl ⟨fun b u e n _ _=>hm.keeps b u e,fun b u e n _ _=>⟨u.slots,hm.keeps b u e⟩,fun b u e n _=>by rw [aG (nst b u e)];exact n,fun b u e _=>⟨u,hm.keeps b u e⟩,fun b xs z=>sn _ _ z,fun b u v z=>sn _ _ z,fun b ps z=>⟨#[],by rw [Array.append_empty];exact sn _ _ z⟩⟩ (fun b u e=>?_) I.bare fun b z=>absurd z (by simp)
  by_cases hb:b=x
  · subst hb
    rw [aD] at e;cases e
    exact ⟨e1,⟨o,_,e1,by rw [← ho],by rw [← ho]⟩,⟨o,e1⟩,fun h1 h2 ⟨o1,w1,e1,e2,e3⟩ k=>⟨o1,w1,k _ e1,e2,e3⟩⟩
  · rw [aG hb] at e
    exact ((I.hok.kept hm.keeps) b u e).stay (fun _ _ _ z=>z) (fun c z=>sn _ _ z) fun c xs z=>sn _ _ z
theorem a6G {pins:List (Addr×Obj)} {σ:St} {H:Hp} {s:Shared} {us:List Value} {G:Gp} {R:dG} {Q:VK} (Fn:ExcBaseFacts Bn newId inN bmN) (hBn:bmB.contains (.type Bn)=true) (FB:ExcBaseFacts B nid initId bmB) (hq:PySem.W.excIn X.K C bmB newId=true) (I:Inv X pins σ H s) (g:HR X.K H G) (hl:us.length≤sizeLine) (q:∀ x,G x=none→R (.ref x) (aL G x (.exn C)))
    (k:∀ v H' d G',Ts H H'→RD X.K H' d v→HR X.K H' G'→R d G'→Q v H'):wpAny (model X.prog X.w) X.A (call (.ref C) us) (EP X pins σ Q) X.xe s:=by
  obtain ⟨tl,N,nm,q',bs,hdct,sn,sub,ab,col,dd',k0,k1,k2,k3,k5,mN,hC,hN,hni,T⟩:=xY I.mod.kin hq
  obtain ⟨h,g0,d0,t0,os0⟩:=s
  refine wpAny_call_exc_subU (hrest:=hl) Fn hBn FB (T.keeps I.bk) (I.bk _ _ hC) (hN.keeps I.bk) hni fun h' x hm=>?_
  obtain ⟨o,vs,nx,J,d1,d2⟩:=aeF I hm
  have sn:Same H (upd H x (.mV o (.ext (a5V C x)))):=aW nx
  exact ⟨.ref x,_,J,rfl,k _ _ _ _ (.same sn) (.ref x) (g.put (u := .exn C) nx ⟨o,vs,aD,d1,d2⟩) (q x (gC (K:=X.K) g nx (qP (X:=X) J)))⟩
theorem auO (Fn:ExcBaseFacts Bn newId inN bmN) (hBn:bmB.contains (.type Bn)=true) (FB:ExcBaseFacts B nid initId bmB) (hg:Gl X x) (hm:X.mg x=some (.ref C)) (hq:PySem.W.excIn X.K C bmB newId=true) (ha:PA3 X (e :: es) t) (hd:(x == ("__debug__" : Str))=false)
    (he:starEach (e :: es) X.env=(false,eval e X.env) :: starEach es X.env) (hpl:(backTo cpos (starEach es X.env)).any (·.1)=false):bV X (.Call (.Name x np) (e :: es) [] cpos) (aeE C t):=by
  intro pins s σ H Q I h _tk
  obtain ⟨ρ,G,R,sr,g,q,kk⟩:=h
  obtain ⟨tl,N,nm,q',bs,hdct,sn,sub,ab,col,dd',k0,k1,k2,k3,k5,mN,hC,hN,hni,T⟩:=xY I.mod.kin hq
  refine wpAny_Call_ofName (iZ I hg hm ?_ hd)
  unfold callWith
  have hA:=ha cpos pins s σ H (fun vs H1=>Ts H H1∧∃ ds G1,bF X.K H1 ds vs∧HR X.K H1 G1∧ds.length≤sizeLine∧∀ x,G1 x=none→R (.ref x) (aL G1 x (.exn C))) I ⟨ρ,G,_,sr,g,q,fun vs H1 ds G1 t1 r1 g1 q1=>⟨t1,ds,G1,r1,g1,q1.1,q1.2⟩⟩
  have hp2:(backTo cpos (starEach (e :: es) X.env)).any (·.1)=false:=by rw [he];show (false || (backTo cpos (starEach es X.env)).any (·.1))=false;rw [hpl];rfl
  rw [he] at hA hp2 ⊢
  refine wpAny_bind (wpAny_holding (Calls.evalArgs_plain (cD hA fun us s2 ⟨vs,H2,I2,r2,t1,ds,G1,r1,g1,hl,q1⟩=>wpAny_bind (wpAny_standAt ?_))))
  have hl2:us.length≤sizeLine:=by rw [← r2.length,← r1.length];exact hl
  simp only [hp2]
  obtain ⟨h0,g0,d0,t0,os0⟩:=s2
  refine wpAny_bind (wpAny_keeperOf_exc (I2.bk _ _ hC) ?_)
  refine wpAny_bind (cD (a6G Fn hBn FB hq I2 g1 hl2 q1 fun v H' d G' t3=>kk v H' d G' (t1.trans t3)) fun v s3 q3=>wpAny_bind (wpAny_holding (wpAny_point (wpAny_pure q3))))
theorem aoY (Fn:ExcBaseFacts Bn newId inN bmN) (hBn:bmB.contains (.type Bn)=true) (FB:ExcBaseFacts B nid initId bmB) (hg:Gl X x) (hm:X.mg x=some (.ref C)) (hq:PySem.W.excIn X.K C bmB newId=true) (hd:(x == ("__debug__" : Str))=false):bV X (.Call (.Name x np) [] [] cpos) (aeE C aK):=by
  intro pins s σ H Q I h _tk
  obtain ⟨ρ,G,R,sr,g,⟨hl,q⟩,kk⟩:=h
  obtain ⟨tl,N,nm,q',bs,hdct,sn,sub,ab,col,dd',k0,k1,k2,k3,k5,mN,hC,hN,hni,T⟩:=xY I.mod.kin hq
  refine wpAny_Call_ofName (iZ I hg hm ?_ hd)
  unfold callWith
  refine wpAny_bind (wpAny_holding (PySem.evalArgs_none (wpAny_bind (wpAny_standAt ?_))))
  obtain ⟨h0,g0,d0,t0,os0⟩:=s
  refine wpAny_bind (wpAny_keeperOf_exc (I.bk _ _ hC) ?_)
  refine wpAny_bind (cD (a6G (us:=[]) Fn hBn FB hq I g (Nat.zero_le _) q kk) fun v s3 q3=>wpAny_bind (wpAny_holding (wpAny_point (wpAny_pure q3))))
end
end L2
namespace L2
open PySem PySem.Spec PyProof.Rows
section
variable {X:Cx} {o e value:Expr} {f:Str} {C:Addr} {pos pos':Pos} {ta tv:bL}
end
section
variable {X:Cx} {qt:Bool} {k:Nat} {f C:Addr} {fd:FuncData} {ps:List Str} {sp:jT} {EX:aQ→aY} {x m:Str} {p pos apos:Pos} {o e:Expr} {es:List Expr} {t:lO} {ta:bL} {dd:List D} {uJ:List V} {ds:List Value}
def a8A (C:Addr) (sp:jT) (dd:List D) (EX:aQ→aY) (t:lO):bL:=fun ρ G R=>t ρ G fun ds G1=>∀ x,G1 x=none→sp (.ref x :: (ds++dd)) (aL G1 x (.ins C [])) (fun v G2=>v = .non∧R (.ref x) G2) (EX ρ)
theorem a2N {pins:List (Addr×Obj)} {σ:St} {H:Hp} {s:Shared} {G:Gp} {R:dG} {Q:VK} {us:List Value} {vs:List V} {nC:List D} {ρ:aQ} (M:Mk X.K C f) (F:bY qt X.prog X.w X.K X.mg X.base (iJ X.prog X.w) k f fd ps (cO X.K sp)) (hr:bQ qt (k+1) X.A) (hb:Binds X.K fd ps ds) (hd:Vals uJ ds) (hdd:∀ H,bF X.K H dd uJ) (hx:Cat X EX)
    (I:Inv X pins σ H s) (sr:SR X.K H ρ σ) (g:HR X.K H G) (r:Vals vs us) (r2:bF X.K H nC vs) (h:∀ x,G x=none→sp (.ref x :: (nC++dd)) (aL G x (.ins C [])) (fun v G2=>v = .non∧R (.ref x) G2) (EX ρ))
    (hQ:∀ v H' d G',Ts H H'→RD X.K H' d v→HR X.K H' G'→R d G'→Q v H'):wpAny (model X.prog X.w) X.A (call (.ref C) us) (EP X pins σ Q) X.xe s:=by
  have n1:H (s.heap.objs.size+1)=none:=I.hok.fresh (Nat.le_succ _)
  have n0:H s.heap.objs.size=none:=I.hok.fresh (Nat.le_refl _)
  have ne:s.heap.objs.size+1≠s.heap.objs.size:=Nat.succ_ne_self _
  have I2:=Inv.made (C:=C) I
  have kl:X.K.lookup (s.heap.objs.size+1)=none:=by
    cases q:X.K.lookup (s.heap.objs.size+1) with
    | none=>rfl
    | some u=>have:=qP I2 _ u q;rw [aD] at this;cases this
  have gn:G (s.heap.objs.size+1)=none:=gC (o := .ins C s.heap.objs.size []) g n1 fun b u e=>by
    by_cases c:b=s.heap.objs.size+1
    · subst c;rw [kl] at e;cases e
    · rw [aG c];exact qP I b u e
  have t1:Ts H (upd H s.heap.objs.size (.own (s.heap.objs.size+1))) := .same (aW n0)
  have n1':upd H s.heap.objs.size (.own (s.heap.objs.size+1)) (s.heap.objs.size+1)=none:=by rw [aG ne];exact n1
  have t2:Ts (upd H s.heap.objs.size (.own (s.heap.objs.size+1))) (upd (upd H s.heap.objs.size (.own (s.heap.objs.size+1))) (s.heap.objs.size+1) (.ins C s.heap.objs.size [])) := .same (aW n1')
  have g1:HR X.K (upd H s.heap.objs.size (.own (s.heap.objs.size+1))) G:=g.same (aW n0)
  have g2:HR X.K (upd (upd H s.heap.objs.size (.own (s.heap.objs.size+1))) (s.heap.objs.size+1) (.ins C s.heap.objs.size [])) (aL G (s.heap.objs.size+1) (.ins C [])):=g1.put n1' ⟨s.heap.objs.size,[],aD,.nil⟩
  have hq:cO X.K sp (V.ref (s.heap.objs.size+1) :: (vs++uJ)) (upd (upd H s.heap.objs.size (.own (s.heap.objs.size+1))) (s.heap.objs.size+1) (.ins C s.heap.objs.size [])) (fun v H'=>v = .non∧∃ G',HR X.K H' G'∧R (.ref (s.heap.objs.size+1)) G') (zJ X.K (EX ρ)) :=
    ⟨.ref (s.heap.objs.size+1) :: (nC++dd),_,_,EX ρ,.cons (.ref _) (((r2.mono t1).mono t2).append (hdd _)),g2,h _ gn,fun v H' d G' r3 g3 q3=>by
      obtain ⟨rfl,q3⟩:=q3
      cases r3
      exact ⟨rfl,G',g3,q3⟩,fun C H' G' g' q'=>⟨C,G',rfl,g',q'⟩⟩
  have rr:Vals (V.ref (s.heap.objs.size+1) :: (vs++uJ)) (Value.ref (s.heap.objs.size+1) :: (us++ds)) := .cons rfl (r.append hd)
  have hl:(Value.ref (s.heap.objs.size+1) :: us++ds).length=ps.length:=by
    have e:=rr.length
    rw [F.len _ _ _ _ hq] at e
    exact e.symm
  refine wpAny_call (ad1 (f:=f) I.yP M.makes M.init (beq_iff_eq.mp M.fn) (codeAny_mono (F.run _ X.stack _ _ ⟨Value.ref (s.heap.objs.size+1) :: us,[]⟩ (Value.ref (s.heap.objs.size+1) :: (us++ds)) _ _ _ (hr.make C us [])
    (I2.env0.make C us []) (hb _ (Value.ref (s.heap.objs.size+1) :: us) I2.yP hl) rr hq) fun r s' hq'=>?_))
  cases r with
  | error e=>exact hx.a9O pins σ _ _ ρ e s' I2 ((sr.mono t1).mono t2) hq'
  | ok fl =>
    cases fl with
    | ret u =>
      obtain ⟨v,H',os,bare,un,hok,rv,ev,G',g3,q3⟩:=hq'
      subst ev
      exact ⟨rv,⟨V.ref (s.heap.objs.size+1),H',I2.call' (ch:=[]) os un hok bare (fun b z=>absurd z (by simp)),rfl,hQ _ H' (.ref _) G' ((t1.trans t2).trans ⟨un.tups,un.cQ⟩) (.ref _) g3 q3⟩⟩
    | next=>exact False.elim hq'
    | brk=>exact False.elim hq'
    | cont=>exact False.elim hq'
theorem aiZ (M:Mk X.K C f) (F:bY qt X.prog X.w X.K X.mg X.base (iJ X.prog X.w) k f fd ps (cO X.K sp)) (hr:bQ qt (k+1) X.A) (hg:Gl X x) (hm:X.mg x=some (.ref C)) (hb:Binds X.K fd ps ds) (hd:Vals uJ ds) (hdd:∀ H,bF X.K H dd uJ) (hx:Cat X EX)
    (ha:PA3 X (e :: es) t) (hdb:(x == ("__debug__" : Str))=false) (he:starEach (e :: es) X.env=(false,eval e X.env) :: starEach es X.env) (hpl:(backTo pos (starEach es X.env)).any (·.1)=false) :
    bV X (.Call (.Name x p) (e :: es) [] pos) (a8A C sp dd EX t):=by
  intro pins s σ H Q I h _tk
  obtain ⟨ρ,G,R,sr,g,q,kk⟩:=h
  refine wpAny_Call_Name_kw (iZ I hg hm ?_ hdb)
  refine PySem.W.callWith_K (h₀:=X.base) I.ok.mod.kin M.kp (cD (ha pos pins s σ H (fun vs H1=>Ts H H1∧∃ ds G1,bF X.K H1 ds vs∧HR X.K H1 G1∧∀ x,G1 x=none→sp (.ref x :: (ds++dd)) (aL G1 x (.ins C [])) (fun v G2=>v = .non∧R (.ref x) G2) (EX ρ)) I ⟨ρ,G,_,sr,g,q,fun vs H1 ds G1 t1 r1 g1 q1=>⟨t1,ds,G1,r1,g1,q1⟩⟩) fun us s1 ⟨vs,H1,I1,r,t1,ds,G1,r1,g1,q1⟩=>⟨I1.yP,?_⟩) he hpl
  exact a2N M F hr hb hd hdd hx I1 (sr.mono t1) g1 r r1 q1 fun v H' d G' t2=>kk v H' d G' (t1.trans t2)
theorem aeG (M:Mk X.K C f) (F:bY qt X.prog X.w X.K X.mg X.base (iJ X.prog X.w) k f fd ps (cO X.K sp)) (hr:bQ qt (k+1) X.A) (hg:Gl X x) (hm:X.mg x=some (.ref C)) (hb:Binds X.K fd ps ds) (hd:Vals uJ ds) (hdd:∀ H,bF X.K H dd uJ) (hx:Cat X EX)
    (hdb:(x == ("__debug__" : Str))=false):bV X (.Call (.Name x p) [] [] pos) (a8A C sp dd EX aK):=by
  intro pins s σ H Q I h _tk
  obtain ⟨ρ,G,R,sr,g,q,kk⟩:=h
  refine wpAny_Call_Name_kw (iZ I hg hm ?_ hdb)
  exact PySem.W.callWith_K0 I.yP M.kp (a2N (us:=[]) (vs:=[]) (nC:=[]) M F hr hb hd hdd hx I sr g .nil .nil q fun v H' d G' t2=>kk v H' d G' t2)
end
end L2
namespace L2
open PySem PySem.Spec PyProof.Rows
section
variable {X:Cx} {pins:List (Addr×Obj)} {σ:St} {H:Hp} {s:Shared} {h':Heap}
theorem Inv.a9X {ch:List Addr} {t':Nat} (I:Inv X pins σ H s) (k:∀ b u,b ∉ ch→s.heap.get? b=some u→h'.get? b=some u) (hc:∀ b∈ch,jP X pins H b):Inv X pins σ H { s with heap:=h',toks:=t' }:=by
  have nit:∀ b u,H b=some u→b ∉ ch:=fun b u e z=>by rw [(hc b z).1] at e;cases e
  refine I.step (g':=s.gens) (d':=s.drawn) (ch:=ch) (fun b hb=>?_) (fun b o _ _ hn e _=>k b o hn e) (fun b o _ _ hn e _=>⟨o.slots,k b o hn e⟩) (fun _ _ _ _ n=>n) (fun b o hn e=>⟨o,k b o hn e⟩) (fun _ _ e=>e) (fun _ _ _ e=>e) (fun b ps e=>⟨#[],by rw [e];simp⟩) (fun m hm=>?_) (fun b u e=>?_) I.bare
  · obtain ⟨_,f1,_,f3,f4,f5⟩:=hc b hb
    exact ⟨f3,f1,f4,f5⟩
  · obtain ⟨o,es,ep,ho,r⟩:=hm
    exact ⟨o,es,ep,k _ o (fun z=>(hc _ z).2.1 rfl) ho,r⟩
  · refine (I.hok b u e).stay (fun c v hcc q=>k c v ?_ q) (fun _ q=>q) fun _ _ q=>q
    rcases hcc with z | z
    · rw [z];exact nit b u e
    · exact nit c _ z
end
section
variable {X:Cx} {es:List Expr} {kt:Nat} {pt:Pos}
end
section
variable {prog:Program} {w:World} {A:Around} {R:Result→Shared→Prop} {I:Addr} {fp wr:List Addr} {n:Nat} {P:Nat→Value→Prop} {St:Nat→Heap→Prop} {kw:List (Str×Value)}
end
section
variable {X:Cx} {x:Str} {p pos kp:Pos} {e d:Expr} {te td:bL}
end
end L2
namespace L2
open PySem PySem.Spec PyProof.Rows
def auP:D→Option Key
  | .int i=>some (.inl i)
  | .str x=>some (.inr x)
  | _=>none
def aoZ:List D→Option (List Key)
  | []=>some []
  | d :: r=>match auP d,aoZ r with
    | some k,some ks=>some (k :: ks)
    | _,_=>none
def aeH:D→Option DK
  | .int i=>some (.inl (.inl i))
  | .str x=>some (.inl (.inr x))
  | _=>none
def a2O:DK→Bool
  | .inl _=>false
  | .inr _=>true
section
variable {κ:Type} [DecidableEq κ] {α:Type}
def eF:List (κ×α)→κ→Option α
  | [],_=>none
  | p :: r,k=>if p.1=k then some p.2 else eF r k
def zQ (kvs:List (κ×α)) (k:κ) (v:α):List (κ×α):=if (eF kvs k).isSome=true then kvs.map (fun kv=>if kv.1=k then (kv.1,v) else kv) else kvs++[(k,v)]
def aeI (kvs:List (κ×α)) (k:κ):List (κ×α):=kvs.filter fun kv=>!decide (kv.1=k)
end
abbrev vB {κ:Type} (K:Fg) (H:Hp) (f:κ→DK):List (DK×D)→List (κ×V)→Prop:=Two fun p q=>p.1=f q.1∧RD K H p.2 q.2
section
variable {κ:Type} [DecidableEq κ] {K:Fg} {H:Hp} {f:κ→DK}
theorem val_two (hf:∀ a b,f a=f b→a=b) {k:κ}:∀ {kvs:List (DK×D)} {xs:List (κ×V)},vB K H f kvs xs→(∀ d,eF kvs (f k)=some d→∃ v,qJ xs k=some v∧RD K H d v)∧(eF kvs (f k)=none→qJ xs k=none)
  | _,_,.nil=>⟨fun d e=>(nomatch e),fun _=>rfl⟩
  | p :: kvs,q :: xs,.cons h r=>by
    obtain ⟨h1,h2⟩:=h
    by_cases c:q.1=k
    · have c2:p.1=f k:=by rw [h1,c]
      unfold eF
      rw [if_pos c2,uN c]
      exact ⟨fun d e=>by cases e;exact ⟨_,rfl,h2⟩,fun e=>(nomatch e)⟩
    · have c2:¬ p.1=f k:=fun z=>c (hf _ _ (h1.symm.trans z))
      unfold eF
      rw [if_neg c2,uO c]
      exact val_two hf r
theorem aeJ (hf:∀ a b,f a=f b→a=b) {k:κ} {kvs:List (DK×D)} {xs:List (κ×V)} (t:vB K H f kvs xs):(eF kvs (f k)).isSome=(qJ xs k).isSome:=by
  have z:=val_two hf (k:=k) t
  cases e:eF kvs (f k) with
  | none=>rw [z.2 e];rfl
  | some d=>obtain ⟨v,e2,_⟩:=z.1 d e;rw [e2];rfl
theorem a9Y {g:DK×D→DK×D} {h:κ×V→κ×V} (gh:∀ p q,p.1=f q.1∧RD K H p.2 q.2→(g p).1=f (h q).1∧RD K H (g p).2 (h q).2):∀ {kvs:List (DK×D)} {xs:List (κ×V)},vB K H f kvs xs→vB K H f (kvs.map g) (xs.map h)
  | _,_,.nil => .nil
  | _,_,.cons z r => .cons (gh _ _ z) (a9Y gh r)
theorem a6H {p:DK×D} {q:κ×V} (z:p.1=f q.1∧RD K H p.2 q.2):∀ {kvs:List (DK×D)} {xs:List (κ×V)},vB K H f kvs xs→vB K H f (kvs++[p]) (xs++[q])
  | _,_,.nil => .cons z .nil
  | _,_,.cons y r => .cons y (a6H z r)
theorem yE (hf:∀ a b,f a=f b→a=b) {k:κ} {d:D} {v:V} (rd:RD K H d v) {kvs:List (DK×D)} {xs:List (κ×V)} (t:vB K H f kvs xs):vB K H f (zQ kvs (f k) d) (putK xs k v):=by
  unfold zQ putK
  rw [yW,aeJ hf t]
  split
  · refine a9Y (fun p q ⟨h1,h2⟩=>?_) t
    by_cases c:q.1=k
    · rw [if_pos (show p.1=f k by rw [h1,c]),if_pos c]
      exact ⟨h1,rd⟩
    · rw [if_neg (show ¬ p.1=f k from fun z=>c (hf _ _ (h1.symm.trans z))),if_neg c]
      exact ⟨h1,h2⟩
  · exact a6H (p:=(f k,d)) (q:=(k,v)) ⟨rfl,rd⟩ t
end
theorem oE (a b:Key) (h:(Sum.inl a:DK) = .inl b):a=b:=by cases h;rfl
theorem oF (a b:List Key) (h:(Sum.inr a:DK) = .inr b):a=b:=by cases h;rfl
def nF (x y:D) (G:Gp) (P:Addr→Bool→List (DK×D)→DK→Prop):Prop:=match x with
  | .ref a=>(match G a,aeH y with
    | some (.iI t kvs),some k=>a2O k=t∧P a t kvs k
    | _,_=>False)
  | _=>False
def zR (K:Fg) (H:Hp) (a:Addr) (vy:V) (kvs:List (DK×D)) (k:DK):Prop :=
  (∃ k' xs,k = .inl k'∧H a=some (.dK xs)∧vB K H .inl kvs xs∧vy=kV k')∨∃ ks xs b,k = .inr ks∧H a=some (.dT xs)∧vB K H .inr kvs xs∧vy = .ref b∧H b=some (.tup (ks.map kV))
theorem a4H {K:Fg} {H:Hp} {y:D} {vy:V} {k:DK} (ry:RD K H y vy) (e:aeH y=some k):(∃ k',k = .inl k'∧vy=kV k')∨∃ ks b,k = .inr ks∧vy = .ref b∧H b=some (.tup (ks.map kV)):=by
  cases ry with
  | int i=>cases e;exact .inl ⟨_,rfl,rfl⟩
  | str x=>cases e;exact .inl ⟨_,rfl,rfl⟩
  | _=>cases e
theorem jV {K:Fg} {H:Hp} {x y:D} {vx vy:V} {G:Gp} {P:Addr→Bool→List (DK×D)→DK→Prop} (rx:RD K H x vx) (ry:RD K H y vy) (g:HR K H G) (h:nF x y G P) :
    ∃ a kvs k,x = .ref a∧vx = .ref a∧G a=some (.iI (a2O k) kvs)∧aeH y=some k∧P a (a2O k) kvs k∧zR K H a vy kvs k:=by
  unfold nF at h
  split at h
  · rename_i a
    split at h
    · rename_i t kvs k e1 e2
      obtain ⟨rfl,h⟩:=h
      cases rx
      refine ⟨a,kvs,k,rfl,rfl,e1,e2,h,?_⟩
      rcases g a _ e1 with ⟨z,xs,e3,r⟩ | ⟨z,xs,e3,r⟩
      · rcases a4H ry e2 with ⟨k',rfl,rfl⟩ | ⟨ks,b,rfl,_⟩
        · exact .inl ⟨k',xs,rfl,e3,r,rfl⟩
        · cases z
      · rcases a4H ry e2 with ⟨k',rfl,rfl⟩ | ⟨ks,b,rfl,rfl,eb⟩
        · cases z
        · exact .inr ⟨ks,xs,b,rfl,e3,r,rfl,eb⟩
    · exact h.elim
  · exact h.elim
theorem zR.get {K:Fg} {H:Hp} {a:Addr} {vy:V} {kvs:List (DK×D)} {k:DK} (h:zR K H a vy kvs k):(∀ d,eF kvs k=some d→∃ v,tZ H a vy (some v)∧RD K H d v)∧(eF kvs k=none→tZ H a vy none):=by
  rcases h with ⟨k',xs,rfl,e,r,rfl⟩ | ⟨ks,xs,b,rfl,e,r,rfl,eb⟩
  · have z:=val_two oE (k:=k') r
    exact ⟨fun d e2=>(z.1 d e2).elim fun v q=>⟨v,by rw [← q.1];exact .k e,q.2⟩,fun e2=>by rw [← z.2 e2];exact .k e⟩
  · have z:=val_two oF (k:=ks) r
    exact ⟨fun d e2=>(z.1 d e2).elim fun v q=>⟨v,by rw [← q.1];exact .t e eb,q.2⟩,fun e2=>by rw [← z.2 e2];exact .t e eb⟩
theorem zR.any {K:Fg} {H:Hp} {a:Addr} {vy:V} {kvs:List (DK×D)} {k:DK} (h:zR K H a vy kvs k):∃ o,tZ H a vy o∧o.isSome=(eF kvs k).isSome∧∀ d v,RD K H d v→RD K H ((eF kvs k).getD d) (o.getD v):=by
  have z:=h.get
  cases e:eF kvs k with
  | none=>exact ⟨none,z.2 e,rfl,fun d v r=>r⟩
  | some d=>obtain ⟨v,g,r⟩:=z.1 d e;exact ⟨some v,g,rfl,fun _ _ _=>r⟩
theorem zR.put {K:Fg} {H:Hp} {G:Gp} {a:Addr} {vy v:V} {d:D} {kvs:List (DK×D)} {k:DK} (g:HR K H G) (h:zR K H a vy kvs k) (rv:RD K H d v) (hl:kvs.length < sizeLine):∃ H',abF H a vy v H'∧Ts H H'∧HR K H' (aL G a (.iI (a2O k) (zQ kvs k d))):=by
  rcases h with ⟨k',xs,rfl,e,r,rfl⟩ | ⟨ks,xs,b,rfl,e,r,rfl,eb⟩
  · have tt:Ts H (upd H a (.dK (putK xs k' v))) := .turn e (fun _ z=>nomatch z) (fun _ _ z=>nomatch z)
    exact ⟨_,.k e (by rw [← r.length];exact hl),tt,g.turn (u := .iI false _) tt (.inl ⟨rfl,_,aD,(yE oE rv r).imp fun _ _ q=>⟨q.1,q.2.mono tt⟩⟩)⟩
  · have tt:Ts H (upd H a (.dT (putK xs ks v))) := .turn e (fun _ z=>nomatch z) (fun _ _ z=>nomatch z)
    exact ⟨_,.t e eb (by rw [← r.length];exact hl),tt,g.turn (u := .iI true _) tt (.inr ⟨rfl,_,aD,(yE oF rv r).imp fun _ _ q=>⟨q.1,q.2.mono tt⟩⟩)⟩
def aeK (G:Gp) (a:Addr):Option (Bool×List (DK×D)):=match G a with
  | some (.iI t kvs)=>some (t,kvs)
  | some (.rdc _ t kvs)=>some (t,kvs)
  | _=>none
theorem aeL {K:Fg} {H:Hp} {G:Gp} {a:Addr} {t:Bool} {kvs:List (DK×D)} (g:HR K H G) (e:aeK G a=some (t,kvs)) :
    (t=false∧∃ xs:List (Key×V),Rd H a (.dK xs)∧vB K H .inl kvs xs)∨(t=true∧∃ xs:List (List Key×V),Rd H a (.dT xs)∧vB K H .inr kvs xs):=by
  unfold aeK at e
  split at e
  · rename_i t' kvs' q
    cases e
    rcases g a _ q with ⟨z,xs,e2,tw⟩ | ⟨z,xs,e2,tw⟩
    · exact .inl ⟨z,xs,.inl e2,tw⟩
    · exact .inr ⟨z,xs,.inl e2,tw⟩
  · rename_i o t' kvs' q
    cases e
    rcases g a _ q with ⟨z,xs,e2,tw⟩ | ⟨z,xs,e2,tw⟩
    · exact .inl ⟨z,xs,.inr ⟨o,e2⟩,tw⟩
    · exact .inr ⟨z,xs,.inr ⟨o,e2⟩,tw⟩
  · cases e
def a8B (x y:D) (G:Gp) (P:List (DK×D)→DK→Prop):Prop:=match x with
  | .ref a=>(match aeK G a,aeH y with
    | some (t,kvs),some k=>a2O k=t∧P kvs k
    | _,_=>False)
  | _=>False
theorem abV {K:Fg} {H:Hp} {x y:D} {vx vy:V} {G:Gp} {P:List (DK×D)→DK→Prop} (rx:RD K H x vx) (ry:RD K H y vy) (g:HR K H G) (h:a8B x y G P) :
    ∃ a kvs k,x = .ref a∧vx = .ref a∧P kvs k∧∀ d,eF kvs k=some d→∃ v,tZ H a vy (some v)∧RD K H d v:=by
  unfold a8B at h
  split at h
  · rename_i a
    split at h
    · rename_i t kvs k e1 e2
      obtain ⟨rfl,h⟩:=h
      cases rx
      refine ⟨a,kvs,k,rfl,rfl,h,fun d ed=>?_⟩
      rcases aeL g e1 with ⟨z,xs,e3,r⟩ | ⟨z,xs,e3,r⟩
      · rcases a4H ry e2 with ⟨k',rfl,rfl⟩ | ⟨ks,b,rfl,_⟩
        · obtain ⟨v,e4,rv⟩:=(val_two oE (k:=k') r).1 d ed
          exact ⟨v,.inl ⟨xs,k',e3,rfl,e4.symm⟩,rv⟩
        · cases z
      · rcases a4H ry e2 with ⟨k',rfl,rfl⟩ | ⟨ks,b,rfl,rfl,eb⟩
        · cases z
        · obtain ⟨v,e4,rv⟩:=(val_two oF (k:=ks) r).1 d ed
          exact ⟨v,.inr ⟨xs,ks,b,e3,rfl,eb,e4.symm⟩,rv⟩
    · exact h.elim
  · exact h.elim
def ap0:R3:=fun x y G R=>a8B x y G fun kvs k=>match eF kvs k with
  | some d=>R d G
  | none=>False
def alD:R3:=fun x y G R=>nF y x G fun _ _ kvs k=>R (.bl (eF kvs k).isSome) G
def wR:R3:=fun x y G R=>match x,y with
  | .tup ds,.ref a=>(match G a with
    | some (.kst ks)=>∃ n:List Int,ds=n.map D.int∧R (.bl (!decide (n∈ks))) G
    | some (.nst ks)=>∃ k:NK,ds=[.tup (k.1.map D.int),.int k.2]∧R (.bl (!decide (k∈ks))) G
    | some (.iI true [])=>∃ k:NK,ds=[.tup (k.1.map D.int),.int k.2]∧R (.bl true) G
    | _=>False)
  | _,_=>nF y x G fun _ _ kvs k=>R (.bl (!(eF kvs k).isSome)) G
theorem a6I {k:List Key}:∀ {xs:List (List Key×Addr×Value)},(atKey xs k).isSome=true↔k∈xs.map (·.1)
  | []=>by simp [atKey]
  | x :: r=>by
    have ih:=a6I (k:=k) (xs:=r)
    unfold atKey at ih ⊢
    by_cases c:x.1=k
    · simp [c]
    · have c2:¬ k=x.1:=fun e=>c e.symm
      rw [List.find?_cons_of_neg (by simp [c]),ih,List.map_cons,List.mem_cons]
      exact ⟨.inr,fun z=>z.elim (fun z=>absurd z c2) id⟩
theorem aeM {X:Cx} {pins:List (Addr×Obj)} {σ:St} {H:Hp} {s:Shared} {ks:List Key} {b:Addr} (I:Inv X pins σ H s) (h:pF X.K H b (ks.map kV)):(tupleKind (aH X.prog X.w)).is s.heap ks b:=by
  obtain ⟨its,r,⟨o,h1,h2,n,h3⟩,_⟩:=I.tuple h
  exact ⟨o,its.toArray,n,h1,h2,h3,by simpa using rY r⟩
theorem aj0 {P P':Program} {w w':World} {x:List Key×Addr×Value} (h:x.1=(toI x.1).map Sum.inl):entryOfKey (tupleKind (aH P w)) x=entryOfKey (tupleKind (aH P' w')) x:=by
  have e:x.1.map (aH P w).hash=x.1.map (aH P' w').hash:=by
    rw [h,List.map_map,List.map_map]
    rfl
  show (⟨reduceHash (Builtin.Tuple.tupleHashOf (x.1.map (aH P w).hash)),_,_⟩:DictEntry)=⟨reduceHash (Builtin.Tuple.tupleHashOf (x.1.map (aH P' w').hash)),_,_⟩
  rw [e]
theorem kst_in {n:List Int} {ys:List (List Key×Addr×Value)} (h:∀ x∈ys,x.1=(toI x.1).map Sum.inl):(atKey ys (n.map Sum.inl)).isSome=decide (n∈ys.map fun x=>toI x.1):=by
  rw [Bool.eq_iff_iff,a6I,decide_eq_true_eq,List.mem_map,List.mem_map]
  refine ⟨fun ⟨x,hx,e⟩=>⟨x,hx,by rw [e,ai7]⟩,fun ⟨x,hx,e⟩=>⟨x,hx,?_⟩⟩
  rw [h x hx,e]
theorem a4I {K:Fg} {H:Hp}:∀ {n:List Int} {vs:List V},bF K H (n.map D.int) vs→vs=(n.map (Sum.inl:Int→Key)).map kV
  | [],_,.nil=>rfl
  | i :: r,_,.cons h t=>by
    cases h
    rw [a4I t]
    rfl
section
variable {X:Cx} {o i value e f:Expr} {to ti tv te tf:bL} {pos pos' apos cpos:Pos}
theorem aAQ (hu:X.A.units+64 < cLine) (ho:bV X o to) (hi:bV X i ti) (hs:an4 i):bV X (.Subscript o i pos) (aJ ap0 to ti):=by
  refine PE.imp (ahM (by omega) ho hi hs) fun σ H Q h=>?_
  obtain ⟨ρ,G,R,s,g,t,k⟩:=h
  refine ⟨ρ,G,_,s,g,t,fun vx H1 x G1 t1 rx g1 t'=>?_⟩
  refine ⟨ρ,G1,_,s.mono t1,g1,t',fun vy H2 y G2 t2 ry g2 t''=>?_⟩
  obtain ⟨a,kvs,kk,rfl,rfl,q,dd⟩:=abV (rx.mono t2) ry g2 t''
  split at q
  · rename_i d e2
    obtain ⟨v,gg,rv⟩:=dd d e2
    exact ⟨a,v,rfl,gg,k v H2 d G2 (t1.trans t2) rv g2 q⟩
  · exact q.elim
theorem auQ (hu:X.A.units+64 < cLine):qC X (compareOp .In) alD:=a3X fun pins s σ H x y vx vy u v G R Q I rx ry ru rv g q k=>by
  obtain ⟨a,kvs,kk,rfl,rfl,e1,_,q,dd⟩:=jV ry rx g q
  obtain ⟨o,gg,eo,_⟩:=dd.any
  obtain rfl:v=Value.ref a:=rv
  exact axU (by omega) I gg ru fun s' I'=>⟨.bl o.isSome,H,I',rfl,k _ H (.bl _) G (.refl H) (.bl _) g (by rw [eo];exact q)⟩
theorem a9Z {X:Cx} {pins:List (Addr×Obj)} {σ:St} {H:Hp} {s:Shared} {k:NK} {a:Addr} (I:Inv X pins σ H s) (h:NSq X.K H k a):zF s.heap k a:=by
  obtain ⟨b,q1,q2⟩:=h
  obtain ⟨its,r,⟨o,h1,h2,n,h3⟩,_⟩:=I.tuple q1
  obtain ⟨jts,r2,⟨o2,g1,g2,n2,g3⟩,_⟩:=I.tuple q2
  cases r with
  | cons ra r =>
  cases r with
  | cons rb r =>
  cases r
  cases ra
  obtain ⟨t,rfl⟩:=rb
  refine ⟨o,b,t,n,h1,h2,h3,fun P w=>⟨o2,jts.toArray,n2,g1,g2,g3,?_⟩⟩
  have e:k.1.map V.int=(k.1.map (Sum.inl:Int→Key)).map kV:=by
    rw [List.map_map]
    rfl
  rw [e] at r2
  simpa using rY r2
theorem ap1 {P P':Program} {w w':World} {x:NK×Addr×Value}:entryOfKey (u0 P w) x=entryOfKey (u0 P' w') x:=by
  have e:(x.1.1.map (Sum.inl:Int→Key)).map (aH P w).hash=(x.1.1.map (Sum.inl:Int→Key)).map (aH P' w').hash:=by
    rw [List.map_map,List.map_map]
    rfl
  show (⟨reduceHash (Builtin.Tuple.tupleHashOf [reduceHash (Builtin.Tuple.tupleHashOf ((x.1.1.map (Sum.inl:Int→Key)).map (aH P w).hash)),(aH P w).hash (.inl x.1.2)]),_,_⟩:DictEntry)=⟨reduceHash (Builtin.Tuple.tupleHashOf [reduceHash (Builtin.Tuple.tupleHashOf ((x.1.1.map (Sum.inl:Int→Key)).map (aH P' w').hash)),(aH P' w').hash (.inl x.1.2)]),_,_⟩
  rw [e]
  rfl
theorem a8C {X:Cx} {pins:List (Addr×Obj)} {σ:St} {H:Hp} {s:Shared} {G:Gp} {a:Addr} {ks:List NK} (I:Inv X pins σ H s) (g:HR X.K H G) (e:G a=some (.nst ks)∨(G a=some (.iI true [])∧ks=[])):∃ ys:List (NK×Addr×Value),Mut (H a)∧(∀ xs,H a≠some (.tup xs))∧(∀ o u,H a≠some (.mV o u))∧ys.map (·.1)=ks∧(a == sysModules)=false∧s.heap.DictOfH (u0 X.prog X.w) a ys∧∀ x∈ys,NSq X.K H x.1 x.2.1:=by
  rcases e with e | ⟨e,rfl⟩
  · obtain ⟨P,w,ys,e3,e4,e5⟩:=g a _ e
    obtain ⟨⟨hd,o,es,ep,h1,h2,h3,h4,h5⟩,_⟩:=(show cG X.prog X.w H s.heap a (.ext _) from I.hok a _ e3)
    exact ⟨ys,by rw [e3];exact True.intro,(fun xs z=>by rw [e3] at z;cases z),(fun o u z=>by rw [e3] at z;cases z),e4,hd,⟨o,es,ep,h1,h2,h3,by rw [h4];exact List.map_congr_left fun x hx=>ap1,fun x hx=>a9Z I (e5 x hx),h5⟩,e5⟩
  · rcases g a _ e with ⟨z,_⟩ | ⟨_,xs,e3,r⟩
    · cases z
    · cases r
      obtain ⟨_,hd,ws,rel,o,es,ep,h1,h2,h3,h4,_⟩:=a9E I.hok e3
      cases rel
      exact ⟨[],by rw [e3];exact True.intro,(fun xs z=>by rw [e3] at z;cases z),(fun o u z=>by rw [e3] at z;cases z),rfl,hd,⟨o,es,ep,h1,h2,h3,h4,(fun x hx=>nomatch hx),List.nodup_nil⟩,(fun x hx=>nomatch hx)⟩
theorem aeN {K:Fg} {H:Hp} {k:NK} {v:V} (r:RD K H (.tup [.tup (k.1.map D.int),.int k.2]) v):∃ a,v = .ref a∧NSq K H k a:=by
  cases r with
  | @tup a zs _ hq rz _ =>
    cases rz with
    | cons ra rb =>
    cases rb with
    | cons rb rn =>
    cases rn
    cases rb
    cases ra with
    | @tup b ys _ hb rbs _ =>
    refine ⟨a,rfl,b,hq,?_⟩
    have:=a4I rbs
    rw [List.map_map] at this
    have e:ys=k.1.map V.int:=this
    rw [← e]
    exact hb
theorem a4J {k:NK}:∀ {xs:List (NK×Addr×Value)},(atKey xs k).isSome=decide (k∈xs.map (·.1))
  | []=>by simp [atKey]
  | x :: r=>by
    have ih:=a4J (k:=k) (xs:=r)
    unfold atKey at ih ⊢
    by_cases c:x.1=k
    · simp [c]
    · have c2:¬ k=x.1:=fun e=>c e.symm
      rw [List.find?_cons_of_neg (by simp [c]),ih,List.map_cons]
      simp [c2]
theorem ap2 (hu:X.A.units+64 < cLine):qC X (compareOp .NotIn) wR:=a3X fun pins s σ H x y vx vy u v G R Q I rx ry ru rv g q k=>by
  unfold wR at q
  split at q
  · rename_i ds a
    split at q
    · rename_i ks e1
      obtain ⟨n,rfl,q⟩:=q
      cases ry
      obtain rfl:v=Value.ref a:=rv
      cases rx with
      | @tup b xs _ sq rb _ =>
      obtain rfl:u=Value.ref b:=ru
      have:=a4I rb
      subst this
      obtain ⟨P,w,ys,e3,e4,e5⟩:=g a _ e1
      obtain ⟨⟨hd,o,es,ep,h1,h2,h3,h4,h5⟩,_⟩:=(show cG X.prog X.w H s.heap a (.ext _) from I.hok a _ e3)
      have dd:s.heap.DictOfH (tupleKind (aH X.prog X.w)) a ys:=⟨o,es,ep,h1,h2,h3,by rw [h4];exact List.map_congr_left fun x hx=>aj0 (e5 x hx).1,fun x hx=>aeM I (e5 x hx).2,h5⟩
      refine wpAny_notIn_heap (tupleKind_room_in1 (by omega)) (aeM I sq) hd dd ?_
      rw [kst_in fun x hx=>(e5 x hx).1,e4]
      exact ⟨.bl (!decide (n∈ks)),H,I.tok _,rfl,k _ H (.bl _) G (.refl H) (.bl _) g q⟩
    · rename_i ks e1
      obtain ⟨kk,rfl,q⟩:=q
      cases ry
      obtain rfl:v=Value.ref a:=rv
      obtain ⟨b,rfl,ns⟩:=aeN rx
      obtain rfl:u=Value.ref b:=ru
      obtain ⟨ys,_,_,_,e4,hd,dd,_⟩:=a8C I g (.inl e1)
      refine wpAny_notIn_heap (knd:=u0 X.prog X.w) (by show X.A.units+1+8 < cLine;omega) (a9Z I ns) hd dd ?_
      rw [a4J,e4]
      exact ⟨.bl (!decide (kk∈ks)),H,I.tok _,rfl,k _ H (.bl _) G (.refl H) (.bl _) g q⟩
    · rename_i e1
      obtain ⟨kk,rfl,q⟩:=q
      cases ry
      obtain rfl:v=Value.ref a:=rv
      obtain ⟨b,rfl,ns⟩:=aeN rx
      obtain rfl:u=Value.ref b:=ru
      obtain ⟨ys,_,_,_,e4,hd,dd,_⟩:=a8C I g (.inr ⟨e1,rfl⟩)
      refine wpAny_notIn_heap (knd:=u0 X.prog X.w) (by show X.A.units+1+8 < cLine;omega) (a9Z I ns) hd dd ?_
      rw [a4J,e4]
      exact ⟨.bl true,H,I.tok _,rfl,k _ H (.bl _) G (.refl H) (.bl _) g q⟩
    · exact q.elim
  · obtain ⟨a,kvs,kk,rfl,rfl,e1,_,q,dd⟩:=jV ry rx g q
    obtain ⟨o,gg,eo,_⟩:=dd.any
    obtain rfl:v=Value.ref a:=rv
    exact ahK (by omega) I gg ru fun s' I'=>⟨.bl (!o.isSome),H,I',rfl,k _ H (.bl _) G (.refl H) (.bl _) g (by rw [eo];exact q)⟩
def oG (x:D) (G:Gp):Prop:=match x with
  | .ref a=>(match G a with
    | some (.iI _ _)=>True
    | _=>False)
  | _=>False
theorem a2P {K:Fg} {H:Hp} {G:Gp} {x:D} {vx:V} (rx:RD K H x vx) (g:HR K H G) (h:oG x G):∃ a,x = .ref a∧vx = .ref a∧IsD H a:=by
  unfold oG at h
  split at h
  · rename_i a
    split at h
    · rename_i t kvs e
      cases rx
      rcases g a _ e with ⟨_,xs,e2,_⟩ | ⟨_,xs,e2,_⟩
      · exact ⟨a,rfl,rfl,.inl ⟨xs,.inl e2⟩⟩
      · exact ⟨a,rfl,rfl,.inr ⟨xs,.inl e2⟩⟩
    · exact h.elim
  · exact h.elim
def yF (to te tf:bL):bL:=fun ρ G R=>to ρ G fun x G1=>oG x G1∧te ρ G1 fun y G2=>tf ρ G2 fun z G3=>nF x y G3 fun _ _ kvs k=>R ((eF kvs k).getD z) G3
theorem aj1 (hu:X.A.units+64 < cLine) (ho:bV X o to) (he:bV X e te) (hf:bV X f tf) (m:M2 X o "get" apos e f cpos):bV X (.Call (.Attribute o "get" apos) [e,f] [] cpos) (yF to te tf):=by
  refine PE.imp (ad8 (by omega) ho he hf m) fun σ H Q h=>?_
  obtain ⟨ρ,G,R,s,g,t,k⟩:=h
  refine ⟨ρ,G,_,s,g,t,fun vx H1 x G1 t1 rx g1 t'=>?_⟩
  obtain ⟨isd,t'⟩:=t'
  obtain ⟨a,rfl,rfl,ia⟩:=a2P rx g1 isd
  refine ⟨a,rfl,ia,?_⟩
  refine ⟨ρ,G1,_,s.mono t1,g1,t',fun vy H2 y G2 t2 ry g2 t''=>?_⟩
  refine ⟨ρ,G2,_,s.mono (t1.trans t2),g2,t'',fun vz H3 z G3 t3 rz g3 t4=>?_⟩
  obtain ⟨a',kvs,kk,e,_,e1,_,q,dd⟩:=jV (rx.mono (t2.trans t3)) (ry.mono t3) g3 t4
  cases e
  obtain ⟨o,gg,eo,hd⟩:=dd.any
  exact ⟨o,gg,k _ H3 _ G3 ((t1.trans t2).trans t3) (hd z vz rz) g3 q⟩
end
end L2
namespace L2
open PySem PySem.Spec PyProof.Rows
section
variable {prog:Program} {w:World} {K:Type} [DecidableEq K] {knd:HeapKind prog w K} {A:Around} {E:Value→Shared→Prop} {s:Shared} {d a:Addr} {k:K} {xs:List (K×Addr×Value)}
theorem ap3 {xs:List (K×Addr×Value)} {o:Obj} {es ep} {v:Value} (hkey:knd.is s.heap k a) (ho:s.heap.get? d=some o) (hc:o.ExactDict) (hd:o.data = .dict es ep) (he:es.toList=xs.map (entryOfKey knd)) (his:∀ x∈xs,knd.is s.heap x.1 x.2.1) (hn:(xs.map (·.1)).Nodup) (hno:∀ (j:Nat) (p:Addr×Value),xs[j]?≠some (k,p)) :
    (s.heap.update d (Obj.mapDictKeys (·.push ⟨knd.hash k,.ref a,v⟩))).DictOfH knd d (storedH xs k a v):=by
  have nk:k ∉ xs.map (·.1):=not_mem_keys_of_get hno
  refine ⟨_,_,ep+1,Heap.get?_update_self _ ho (Obj.isFreed_of_dict (Obj.data_mapDictKeys hd _)),hc.mapDictKeys _,Obj.data_mapDictKeys hd _,?_,?_,?_⟩ <;> rw [storedH_new (atKey_none_of_get hno)]
  · simp [he,entryOfKey]
  · intro x hx;rcases List.mem_append.mp hx with hx | hx
    · exact knd.keeps (his x hx) ho hd (Heap.SameBut.update ..)
    · rw [List.mem_singleton] at hx;subst hx
      exact knd.keeps hkey ho hd (Heap.SameBut.update ..)
  · rw [List.map_append,List.nodup_append];refine ⟨hn,by simp,fun x hx y hy e=>?_⟩
    rw [List.map_singleton,List.mem_singleton] at hy
    exact nk (by rw [← show y=k from hy,← e];exact hx)
theorem ap4 {v:Value} {Q:Value→Shared→Prop} (hu:knd.room A) (hkey:knd.is s.heap k a) (hm:s.heap.DictOfH knd d xs) (hsz:xs.length≤sizeLine)
    (h1:∀ p,atKey xs k=some p→Q p.2 { s with toks:=s.toks+knd.draws k })
    (h2:atKey xs k=none→∀ h',h'.DictOfH knd d (storedH xs k a v)→Heap.SameBut d s.heap h'→Q v { s with heap:=h',toks:=s.toks+knd.draws k }):wpAny (model prog w) A (dictSetDefault d (.ref a) v) Q E s:=by
  obtain ⟨o,es,ep,ho,hc,hd,he,his,hn⟩:=hm
  unfold dictSetDefault
  refine wpAny_holding (wpAny_bind (knd.pyHash hu hkey (wpAny_bind (wpAny_dictFind_heap (s:={ s with toks:=s.toks+knd.draws k }) hu hkey ho hd he his hn ?_ ?_))))
  · intro hno
    refine wpAny_bind (wpAny_rule (wpAny_bind (wpAny_updateDictKeys (s:={ s with toks:=s.toks+knd.draws k }) ho hd (wpAny_pure (h2 (atKey_none_of_get hno) _ (ap3 hkey ho hc hd he his hn hno) (Heap.SameBut.update ..))) (hz:=by have e:=size_of_entries he;omega))))
  · intro j p hj
    refine wpAny_bind (wpAny_dictEntries (s:={ s with toks:=s.toks+knd.draws k }) ho hd ?_);rw [entry_at he j,hj]
    exact wpAny_bind (wpAny_rule (wpAny_pure (h1 p (atKey_of_get hn hj))))
theorem a1H {v:Value} {Q:Value→Shared→Prop} (hu:knd.room A.in1) (hkey:knd.is s.heap k a) (hs:(d == sysModules)=false) (hm:s.heap.DictOfH knd d xs) (hsz:xs.length≤sizeLine)
    (h1:∀ p,atKey xs k=some p→Q p.2 { s with toks:=s.toks+knd.draws k })
    (h2:atKey xs k=none→∀ h',h'.DictOfH knd d (storedH xs k a v)→Heap.SameBut d s.heap h'→Q v { s with heap:=h',toks:=s.toks+knd.draws k }):wpAny (model prog w) A (call (.builtin "dict.setdefault") [.ref d,.ref a,v]) Q E s:=by
  refine call_meetsIn (S:=fun A' R s'=>knd.room A'.in1∧s'=s∧(∀ p,atKey xs k=some p→R (.ok (.ret p.2)) { s with toks:=s.toks+knd.draws k })∧(atKey xs k=none→∀ h',h'.DictOfH knd d (storedH xs k a v)→Heap.SameBut d s.heap h'→R (.ok (.ret v)) { s with heap:=h',toks:=s.toks+knd.draws k })) PySem.F.slot_dict_setdefault hm.typeIs PySem.F.entry_dict_setdefault (PySem.F.args_dict_setdefault_3 _ _ _) (.of_wp fun A' R s' ⟨hu',e,g1,g2⟩=>?_) ⟨hu,rfl,h1,h2⟩
  subst e
  unfold Builtin.«dict.setdefault»;refine wpAny_bind ?_
  unfold Builtin.Dict.keyAndDefault;refine wpAny_bind (wpAny_notOrdered_dict hm.typeIs ?_)
  show wpAny _ _ (pure (d,Value.ref a,some v)) _ _ _;refine wpAny_pure ?_
  show wpAny _ _ (if (d == sysModules)=true then _ else (dictSetDefault d (.ref a) v >>= _)) _ _ _;rw [if_neg (by rw [hs];exact Bool.false_ne_true)]
  exact wpAny_bind (ap4 hu' hkey hm hsz (fun p hp=>wpAny_pure ⟨p.2,rfl,g1 p hp⟩) fun hn h' hm' hs'=>wpAny_pure ⟨v,rfl,g2 hn h' hm' hs'⟩)
def iG (xs:List (K×Addr×Value)) (k:K):List (K×Addr×Value):=xs.filter fun x=>decide (x.1≠k)
theorem a6J {xs:List (K×Addr×Value)} (hn:(xs.map (·.1)).Nodup) {j:Nat} {p:Addr×Value} (hj:xs[j]?=some (k,p)):iG xs k=xs.eraseIdx j:=by
  induction xs generalizing j with
  | nil=>simp at hj
  | cons x r ih =>
    rw [List.map_cons,List.nodup_cons] at hn
    cases j with
    | zero =>
      simp at hj;subst hj
      have:∀ y∈r,decide (y.1≠k)=true:=fun y hy=>by
        simp only [decide_eq_true_eq]
        intro e
        exact hn.1 (List.mem_map.mpr ⟨y,hy,e⟩)
      rw [iG,List.filter_cons,if_neg (by simp),List.filter_eq_self.mpr this]
      rfl
    | succ j =>
      have hj':r[j]?=some (k,p):=by simpa using hj
      have ne:x.1≠k:=fun e=>hn.1 (by rw [e];exact List.mem_map.mpr ⟨(k,p),List.mem_of_getElem? hj',rfl⟩)
      have:=ih hn.2 hj'
      simp [iG,List.filter_cons,ne] at this ⊢
      exact this
theorem aj2 {p:Addr×Value} {Q:Option DictEntry→Shared→Prop} (hu:knd.room A) (hkey:knd.is s.heap k a) (hm:s.heap.DictOfH knd d xs) (hsz:xs.length≤sizeLine) (hp:atKey xs k=some p)
    (h:∀ h' e,e.key = .ref p.1→e.val=p.2→h'.DictOfH knd d (iG xs k)→Heap.SameBut d s.heap h'→Q (some e) { s with heap:=h',toks:=s.toks+knd.draws k }):wpAny (model prog w) A (Builtin.Dict.takeOut d (.ref a)) Q E s:=by
  obtain ⟨o,es,ep,ho,hc,hd,he,his,hn⟩:=hm
  unfold Builtin.Dict.takeOut
  refine wpAny_holding (wpAny_bind (knd.pyHash hu hkey (wpAny_bind (wpAny_dictFind_heap (s:={ s with toks:=s.toks+knd.draws k }) hu hkey ho hd he his hn ?_ ?_))))
  · intro hno;rw [atKey_none_of_get hno] at hp;cases hp
  · intro j q hj
    rw [atKey_of_get hn hj] at hp;cases hp
    refine wpAny_bind (wpAny_dictEntries (s:={ s with toks:=s.toks+knd.draws k }) ho hd ?_);rw [entry_at he j,hj]
    refine wpAny_bind (wpAny_updateDictKeys (s:={ s with toks:=s.toks+knd.draws k }) ho hd (wpAny_pure (h _ _ rfl rfl ⟨_,_,ep+1,Heap.get?_update_self _ ho (Obj.isFreed_of_dict (Obj.data_mapDictKeys hd _)),hc.mapDictKeys _,Obj.data_mapDictKeys hd _,?_,?_,?_⟩ (Heap.SameBut.update ..))) (hz:=by have e:=size_of_entries he;omega) (hf:=?_))
    · rw [a6J hn hj]
      have hjl:j < es.size:=by rw [size_of_entries he];exact (List.getElem?_eq_some_iff.mp hj).1
      have em:∀ (l:List (K×Addr×Value)) (j:Nat),(l.map (entryOfKey knd)).eraseIdx j=(l.eraseIdx j).map (entryOfKey knd):=by
        intro l
        induction l with
        | nil=>intro j;rfl
        | cons x r ih=>intro j;cases j with
          | zero=>rfl
          | succ j=>simp [ih]
      simp [Array.eraseIdxIfInBounds,hjl,he,em]
    · intro x hx
      exact knd.keeps (his x (List.mem_filter.mp hx).1) ho hd (Heap.SameBut.update ..)
    · exact (List.filter_sublist.map _).nodup hn
    · show (es.eraseIdxIfInBounds j).size≤es.size+1
      unfold Array.eraseIdxIfInBounds
      split <;> simp <;> omega
theorem ap5 {p:Addr×Value} {Q:Value→Shared→Prop} (hu:knd.room A.in1) (hkey:knd.is s.heap k a) (hm:s.heap.DictOfH knd d xs) (hsz:xs.length≤sizeLine) (hp:atKey xs k=some p)
    (h:∀ h',h'.DictOfH knd d (iG xs k)→Heap.SameBut d s.heap h'→Q p.2 { s with heap:=h',toks:=s.toks+knd.draws k }):wpAny (model prog w) A (call (.builtin "dict.pop") [.ref d,.ref a]) Q E s:=by
  refine call_meetsIn (S:=fun A' R s'=>knd.room A'.in1∧s'=s∧∀ h',h'.DictOfH knd d (iG xs k)→Heap.SameBut d s.heap h'→R (.ok (.ret p.2)) { s with heap:=h',toks:=s.toks+knd.draws k }) PySem.F.slot_dict_pop hm.typeIs PySem.F.entry_dict_pop (PySem.F.args_dict_pop_2 _ _) (.of_wp fun A' R s' ⟨hu',e,g⟩=>?_) ⟨hu,rfl,h⟩
  subst e
  have hne:xs≠[]:=fun e=>by subst e;cases hp
  obtain ⟨o,es,ep,ho,hc,hd,he,his,hn⟩:=id hm
  unfold Builtin.«dict.pop»;refine wpAny_bind ?_
  unfold Builtin.Dict.keyAndDefault;refine wpAny_bind (wpAny_notOrdered_dict hm.typeIs ?_)
  show wpAny _ _ (pure (d,Value.ref a,none)) _ _ _;refine wpAny_pure ?_
  have e0:es.isEmpty=false:=by
    have:=size_of_entries he
    rw [Array.isEmpty_eq_false_iff]
    intro z
    subst z
    exact hne (List.length_eq_zero_iff.mp this.symm)
  show wpAny _ _ (dictEntries d >>= _) _ _ _
  refine wpAny_bind (wpAny_dictEntries ho hd ?_)
  rw [e0]
  refine wpAny_bind (wpAny_pure ?_)
  show wpAny _ _ (Builtin.Dict.takeOut d (Value.ref a) >>= _) _ _ _
  refine wpAny_bind (aj2 hu' hkey hm hsz hp fun h' e e1 e2 dd hs=>?_)
  refine wpAny_bind (wpAny_letGo (wpAny_pure ⟨_,rfl,?_⟩))
  rw [e2]
  exact g h' dd hs
end
theorem KT.drop {H:Hp} {kvs:List (List Key×V)} {xs:List (List Key×Addr×Value)} (r:KT H kvs xs) (k:List Key):KT H (pH kvs k) (iG xs k):=by
  unfold pH iG
  induction r with
  | nil=>exact .nil
  | @cons p q ps qs h t ih =>
    rw [List.filter_cons,List.filter_cons]
    by_cases e:p.1=k
    · rw [if_neg (by simp [e]),if_neg (by simp [h.1.symm.trans e])]
      exact ih
    · rw [if_pos (by simp [e]),if_pos (by simp;exact fun z=>e (h.1.trans z))]
      exact .cons h ih
theorem vC {κ:Type} [DecidableEq κ] {K:Fg} {H:Hp} {f:κ→DK} (hf:∀ a b,f a=f b→a=b) {k:κ}:∀ {kvs:List (DK×D)} {xs:List (κ×V)},vB K H f kvs xs→vB K H f (aeI kvs (f k)) (pH xs k)
  | _,_,.nil => .nil
  | p :: kvs,q :: xs,.cons h r=>by
    unfold aeI pH
    rw [List.filter_cons,List.filter_cons]
    by_cases c:q.1=k
    · rw [if_neg (by simp [show p.1=f k by rw [h.1,c]]),if_neg (by simp [c])]
      exact vC hf r
    · rw [if_pos (by simp;exact fun z=>c (hf _ _ (h.1.symm.trans z))),if_pos (by simp [c])]
      exact .cons h (vC hf r)
def aeO (r:xU) (to:bL) (t:lO):bL:=fun ρ G R=>to ρ G fun x G1=>oG x G1∧t ρ G1 fun xs G2=>r x xs G2 R
section
variable {X:Cx}
theorem ap6 {o e:Expr} {es:List Expr} {to:bL} {t:lO} {name:Str} {apos cpos:Pos} {id:String} {r3:xU} (slot:Slot "dict" name id) (hty:typeOf (.builtin id)=pure (.type "method_descriptor")) (hm:rA X id r3) (ho:bV X o to) (ha:PA3 X (e :: es) t)
    (hbase:attributeBase o name X.env (eval o X.env)=eval o X.env)
    (hfew:((backTo cpos (starEach (e :: es) X.env)).all (fun x=>!x.1)&&(backToKw cpos (keywordEach [] X.env)).all (fun x=>x.1.isSome)
      && decide ((e :: es).length+([]:List Keyword).length+(if ([]:List Keyword).isEmpty then 0 else 1) < 30))=true)
    (hline:(apos.endLine == cpos.line)=true) (hs:starEach (e :: es) X.env=(false,eval e X.env) :: starEach es X.env) (hplain:(backTo cpos (starEach es X.env)).any (·.1)=false) :
    bV X (.Call (.Attribute o name apos) (e :: es) [] cpos) (aeO r3 to t):=by
  intro pins s σ H Q I h _tk
  obtain ⟨ρ,G,R,sr,g,q,kk⟩:=h
  refine wpAny_Call_method_late hbase hfew hline rfl (cD (ho pins s σ H (fun vx H1=>Ts H H1∧∃ x G1,RD X.K H1 x vx∧HR X.K H1 G1∧oG x G1∧t ρ G1 fun xs G2=>r3 x xs G2 R) I ⟨ρ,G,_,sr,g,q,fun v H1 x G1 t1 r1 g1 q1=>⟨t1,x,G1,r1,g1,q1⟩⟩) fun v s1 ⟨vx,H1,I1,r1,t1,x,G1,rx,g1,ty,q1⟩=>?_)
  obtain ⟨a,rfl,rfl,ia⟩:=a2P rx g1 ty
  obtain rfl:v=Value.ref a:=r1
  obtain ⟨h1,h2,_⟩:=ad7 I1 ia
  refine ⟨"dict",id,PySem.F.plainAttrs_dict,slot,hty,h1,h2,?_⟩
  have hA:=ha cpos pins s1 σ H1 (fun vs H2=>Ts H1 H2∧∃ xs G2,bF X.K H2 xs vs∧HR X.K H2 G2∧r3 (.ref a) xs G2 R) I1 ⟨ρ,G1,_,sr.mono t1,g1,q1,fun vs H2 xs G2 t2 r2 g2 q2=>⟨t2,xs,G2,r2,g2,q2⟩⟩
  rw [hs] at hA ⊢
  refine Calls.callWith_builtin (by show (false || (backTo cpos (starEach es X.env)).any (·.1))=false;rw [hplain] <;> rfl) (Calls.evalArgs_plain ?_)
  exact cD hA fun us s2 ⟨vs,H2,I2,r2,t2,xs,G2,rs,g2,q2⟩=>hm pins s2 σ H2 (.ref a) xs (.ref a) vs (.ref a) us G2 R Q I2 (.ref a) rs rfl r2 g2 q2 fun v H' d G' t3=>kk v H' d G' ((t1.trans t2).trans t3)
def aeP:xU:=fun x xs G R=>match xs with
  | [y,z]=>nF x y G fun a t kvs k=>t=true∧kvs.length < sizeLine∧(match eF kvs k with
    | some d=>R d G
    | none=>R z (aL G a (.iI t (zQ kvs k z))))
  | _=>False
theorem auR (hu:X.A.units+64 < cLine):rA X "dict.setdefault" aeP:=by
  intro pins s σ H x xs vx vs u us G R Q I rx rs ru rv g q k
  unfold aeP at q
  split at q
  case h_2=>exact q.elim
  case h_1 y z =>
    cases rs with
    | cons ry rs =>
    cases rs with
    | @cons _ vz _ _ rz rs =>
    cases rs
    cases rv with
    | cons rvy rv =>
    cases rv with
    | cons rvz rv =>
    cases rv
    obtain ⟨a,kvs,kk,rfl,rfl,e1,_,⟨ht,hl,q⟩,dd⟩:=jV rx ry g q
    obtain rfl:u=Value.ref a:=ru
    rcases dd with ⟨k',ys,rfl,_⟩ | ⟨ks,ys,b,rfl,e,r,rfl,eb⟩
    · cases ht
    · cases rvy
      obtain ⟨z1,hd,ws,rel,dc⟩:=a9E I.hok e
      have hw:=val_two oF (k:=ks) r
      have hv:=rel.val ks
      have lw:ws.length≤sizeLine:=by rw [← Paired.length rel];exact z1
      refine a1H (tupleKind_room_in1 (by omega)) (qK I.hok eb) hd dc lw (fun p hp=>?_) fun hn h' dc' hs=>?_
      · rw [hp] at hv
        cases e2:eF kvs (.inr ks) with
        | none=>rw [hw.2 e2] at hv;exact (show False from hv).elim
        | some d =>
          rw [e2] at q
          obtain ⟨v,e3,rd⟩:=hw.1 d e2
          rw [e3] at hv
          exact ⟨v,H,I.tok _,hv,k v H d G (.refl H) rd g q⟩
      · rw [hn] at hv
        cases e2:eF kvs (.inr ks) with
        | some d =>
          obtain ⟨v,e3,rd⟩:=hw.1 d e2
          rw [e3] at hv;exact (show False from hv).elim
        | none =>
          rw [e2] at q
          have tt:Ts H (upd H a (.dT (putK ys ks vz))) := .turn e (fun _ z=>nomatch z) (fun _ _ z=>nomatch z)
          obtain ⟨q0,es,ep,hq,g2,g3,g4,_,g5⟩:=dc'
          have hl2:∀ v:V,(putK ys ks v).length≤sizeLine:=fun v=>by have:=lQ ys ks v;rw [← r.length] at this;omega
          refine ⟨_,_,lR (t':=_) (ob := .dT (putK ys ks vz)) I (by rw [e];exact True.intro) hs ⟨q0,hq⟩ ⟨hl2 _,hd,_,(rel.put ks eb rvz).keeps fun c zs ec=>?_,q0,es,ep,hq,g2,g3,g4,g5⟩,rvz,k _ _ z _ tt (rz.mono tt) (g.turn (u := .iI true _) tt (.inr ⟨rfl,_,aD,(yE oF rz r).imp fun _ _ q=>⟨q.1,q.2.mono tt⟩⟩)) q⟩
          rw [aG (jN ec e (fun z=>nomatch z))]
          exact ec
def aeQ:xU:=fun x xs G R=>match xs with
  | [y]=>nF x y G fun a t kvs k=>(match eF kvs k with
    | some d=>R d (aL G a (.iI t (aeI kvs k)))
    | none=>False)
  | _=>False
theorem ap7 (hu:X.A.units+64 < cLine):rA X "dict.pop" aeQ:=by
  intro pins s σ H x xs vx vs u us G R Q I rx rs ru rv g q k
  match xs,rs,q with
  | [],_,q=>exact q.elim
  | _ :: _ :: _,_,q=>exact q.elim
  | [y],.cons ry .nil,q =>
    cases rv with
    | cons rvy rv =>
    cases rv
    obtain ⟨a,kvs,kk,rfl,rfl,e1,_,q,dd⟩:=jV rx ry g q
    obtain rfl:u=Value.ref a:=ru
    split at q
    · rename_i d e2
      rcases dd with ⟨k',ys,rfl,e,r,rfl⟩ | ⟨ks,ys,b,rfl,e,r,rfl,eb⟩
      · obtain ⟨v,e3,rd⟩:=(val_two oE (k:=k') r).1 d e2
        have tt:Ts H (upd H a (.dK (pH ys k'))) := .turn e (fun _ z=>nomatch z) (fun _ _ z=>nomatch z)
        exact asN I e rvy e3 (.inl rfl) fun w' s' I' rw'=>⟨v,_,I',rw',k v _ d _ tt (rd.mono tt) (g.turn (u := .iI false _) tt (.inl ⟨rfl,_,aD,(vC oE r).imp fun _ _ q=>⟨q.1,q.2.mono tt⟩⟩)) q⟩
      · obtain ⟨v,e3,rd⟩:=(val_two oF (k:=ks) r).1 d e2
        cases rvy
        obtain ⟨z1,hd,ws,rel,dc⟩:=a9E I.hok e
        have hv:=rel.val ks
        rw [e3] at hv
        have lw:ws.length≤sizeLine:=by rw [← Paired.length rel];exact z1
        cases hp:atKey ws ks with
        | none=>rw [hp] at hv;exact (show False from hv).elim
        | some p =>
          rw [hp] at hv
          have tt:Ts H (upd H a (.dT (pH ys ks))) := .turn e (fun _ z=>nomatch z) (fun _ _ z=>nomatch z)
          refine ap5 (tupleKind_room_in1 (by omega)) (qK I.hok eb) dc lw hp fun h' dc' hs=>?_
          obtain ⟨q0,es,ep,hq,g2,g3,g4,_,g5⟩:=dc'
          refine ⟨v,_,lR (t':=_) (ob := .dT (pH ys ks)) I (by rw [e];exact True.intro) hs ⟨q0,hq⟩ ⟨Nat.le_trans (yX ys ks) z1,hd,_,(rel.drop ks).keeps fun c zs ec=>?_,q0,es,ep,hq,g2,g3,g4,g5⟩,hv,k v _ d _ tt (rd.mono tt) (g.turn (u := .iI true _) tt (.inr ⟨rfl,_,aD,(vC oF r).imp fun _ _ q=>⟨q.1,q.2.mono tt⟩⟩)) q⟩
          rw [aG (jN ec e (fun z=>nomatch z))]
          exact ec
    · exact q.elim
end
end L2
namespace L2
open PySem PySem.Spec PyProof.Rows PySem.W
section
variable {cmp:Nat→Nat→(Bool→Shared→Prop)→Shared→Prop} {I:Shared→Prop} {kf:Nat→Int}
def ky (kf:Nat→Int) (p:Array Nat) (i:Nat):Int:=kf (p.getD i 0)
def Up (kf:Nat→Int) (p:Array Nat) (k:Nat):Prop:=∀ i j,i≤j→j < k→ky kf p i≤ky kf p j
def Down (kf:Nat→Int) (p:Array Nat) (k:Nat):Prop:=∀ i j,i < j→j < k→ky kf p j < ky kf p i
def Asks (cmp:Nat→Nat→(Bool→Shared→Prop)→Shared→Prop) (I:Shared→Prop) (kf:Nat→Int) (n:Nat):Prop:=∀ i j C s,i < n→j < n→I s→(∀ s',I s'→C (decide (kf i < kf j)) s')→cmp i j C s
structure Pm (n:Nat) (p:Array Nat):Prop where
  size:p.size=n
  perm:p.toList.Perm (List.range n)
theorem Pm.lt {n:Nat} {p:Array Nat} (h:Pm n p) {i:Nat} (hi:i < n):p.getD i 0 < n:=by
  have hs:i < p.size:=by rw [h.size];exact hi
  have e:p.getD i 0=p[i]:=by simp [Array.getD,hs]
  rw [e]
  exact List.mem_range.mp (h.perm.mem_iff.mp (by simp))
theorem Pm.inj {n:Nat} {p:Array Nat} (h:Pm n p) {i j:Nat} (hi:i < n) (hj:j < n) (e:p.getD i 0=p.getD j 0):i=j:=by
  have hs:i < p.size:=by rw [h.size];exact hi
  have ht:j < p.size:=by rw [h.size];exact hj
  have nd:p.toList.Nodup:=(h.perm.nodup_iff).mpr List.nodup_range
  have e1:p.getD i 0=p[i]:=by simp [Array.getD,hs]
  have e2:p.getD j 0=p[j]:=by simp [Array.getD,ht]
  rw [e1,e2] at e
  have key:=List.pairwise_iff_getElem.mp nd
  have hs':i < p.toList.length:=by simpa using hs
  have ht':j < p.toList.length:=by simpa using ht
  rcases Nat.lt_trichotomy i j with c | c | c
  · exact absurd (by simpa using e) (key i j hs' ht' c)
  · exact c
  · exact absurd (by simpa using e.symm) (key j i ht' hs' c)
theorem yG {p q:Array Nat} {i j:Nat} (h:p[i]?=q[j]?):p.getD i 0=q.getD j 0:=by
  rw [Array.getD_eq_getD_getElem?,Array.getD_eq_getD_getElem?,h]
theorem aeR {p:Array Nat} {n k:Nat} (hn:n≤p.size) (hk:k < n):ky kf (kas_rev p 0 n) k=ky kf p (n - 1 - k):=by
  unfold ky kas_rev
  have e:=getElem?_mirror_all (xs:=p) (i:=0) (j:=n) hn k
  rw [if_pos ⟨Nat.zero_le _,hk⟩,Nat.zero_add] at e
  rw [yG e]
theorem Pm.rev {n m:Nat} {p:Array Nat} (h:Pm n p):Pm n (kas_rev p 0 m):=⟨by rw [kas_rev_size];exact h.size,((mirror_perm p 0 m _).toList).trans h.perm⟩
theorem Down.up {p:Array Nat} {n:Nat} (hn:n≤p.size) (h:Down kf p n):Up kf (kas_rev p 0 n) n:=fun i j hij hj=>by
  rw [aeR hn (by omega),aeR hn hj]
  by_cases c:i=j
  · subst c;exact Int.le_refl _
  · exact Int.le_of_lt (h (n - 1 - j) (n - 1 - i) (by omega) (by omega))
theorem a8D {n:Nat} (hc:Asks cmp I kf n) {p:Array Nat} (P:Pm n p) {Q:Nat→Shared→Prop}:∀ (f a:Nat) (s:Shared),1≤a→a+f≤n→Up kf p a→I s→(∀ m s',a≤m→m≤a+f→Up kf p m→(m < a+f→ky kf p m < ky kf p (m - 1))→I s'→Q m s')→(kas_asc p f a).kasWp cmp Q s
  | 0,a,s,h1,h2,u,i,h=>h a s (Nat.le_refl _) (Nat.le_refl _) u (fun z=>absurd z (Nat.lt_irrefl _)) i
  | f+1,a,s,h1,h2,u,i,h=>by
    show cmp (p.getD a 0) (p.getD (a - 1) 0) _ s
    refine hc _ _ _ s (P.lt (by omega)) (P.lt (by omega)) i fun s' i'=>?_
    by_cases c:kf (p.getD a 0) < kf (p.getD (a - 1) 0)
    · rw [decide_eq_true c];dsimp only;rw [if_pos rfl]
      exact h a s' (Nat.le_refl _) (by omega) u (fun _=>c) i'
    · rw [decide_eq_false c];dsimp only;rw [if_neg (by decide)]
      refine a8D hc P f (a+1) s' (by omega) (by omega) (fun x y hxy hy=>?_) i' fun m s2 l1 l2 u2 l3 i2=>h m s2 (by omega) (by omega) u2 (fun z=>l3 (by omega)) i2
      by_cases cy:y < a
      · exact u x y hxy cy
      · have ey:y=a:=by omega
        subst ey
        by_cases cx:x=y
        · subst cx;exact Int.le_refl _
        · have:=u x (y - 1) (by omega) (by omega)
          have c':ky kf p (y - 1)≤ky kf p y:=by unfold ky;omega
          omega
theorem aa0 {n:Nat} (hc:Asks cmp I kf n) (hd:∀ i j,i < n→j < n→kf i=kf j→i=j) {p:Array Nat} (P:Pm n p) {Q:Array Nat×Nat×Nat→Shared→Prop}:∀ (f a:Nat) (s:Shared),2≤a→a+f≤n→Down kf p a→I s→(∀ m s',a≤m→m≤a+f→Down kf p m→I s'→Q (p,m,0) s')→(kas_desc f p a 0).kasWp cmp Q s
  | 0,a,s,h1,h2,u,i,h=>h a s (Nat.le_refl _) (Nat.le_refl _) u i
  | f+1,a,s,h1,h2,u,i,h=>by
    show cmp (p.getD a 0) (p.getD (a - 1) 0) _ s
    refine hc _ _ _ s (P.lt (by omega)) (P.lt (by omega)) i fun s' i'=>?_
    by_cases c:kf (p.getD a 0) < kf (p.getD (a - 1) 0)
    · rw [decide_eq_true c];dsimp only;rw [if_pos rfl,if_neg (by omega)]
      refine aa0 hc hd P f (a+1) s' (by omega) (by omega) (fun x y hxy hy=>?_) i' fun m s2 l1 l2 u2 i2=>h m s2 (by omega) (by omega) u2 i2
      by_cases cy:y < a
      · exact u x y hxy cy
      · have ey:y=a:=by omega
        subst ey
        have c':ky kf p y < ky kf p (y - 1):=c
        by_cases cx:x=y - 1
        · subst cx;exact c'
        · have:=u x (y - 1) (by omega) (by omega)
          omega
    · rw [decide_eq_false c];dsimp only;rw [if_neg (by decide)]
      show cmp (p.getD (a - 1) 0) (p.getD a 0) _ s'
      refine hc _ _ _ s' (P.lt (by omega)) (P.lt (by omega)) i' fun s2 i2=>?_
      have ne:kf (p.getD a 0)≠kf (p.getD (a - 1) 0):=fun z=>by
        have:=P.inj (i:=a) (j:=a - 1) (by omega) (by omega) (hd _ _ (P.lt (by omega)) (P.lt (by omega)) z)
        omega
      rw [decide_eq_true (show kf (p.getD (a - 1) 0) < kf (p.getD a 0) by omega)];dsimp only;rw [if_pos rfl]
      exact h a s2 (Nat.le_refl _) (by omega) u i2
theorem aeS {n:Nat} (hc:Asks cmp I kf n) (hd:∀ i j,i < n→j < n→kf i=kf j→i=j) (h2:2≤n) {p:Array Nat} (P:Pm n p) {Q:Nat×Array Nat→Shared→Prop} {s:Shared} (i:I s) (h:∀ m q s',1≤m→m≤n→Pm n q→Up kf q m→I s'→Q (m,q) s'):(kas_count n p).kasWp cmp Q s:=by
  unfold kas_count
  rw [KasT.kasWp_bind]
  refine a8D hc P (n - 1) 1 s (Nat.le_refl _) (by omega) (fun x y hxy hy=>by have:x=y:=(by omega);subst this;exact Int.le_refl _) i fun m s' l1 l2 u l3 i'=>?_
  by_cases c:m=n
  · subst c
    rw [if_pos (by simp)]
    exact h m p s' l1 (by omega) P u i'
  · rw [if_neg (by simpa using c)]
    by_cases c1:m > 1
    · rw [if_pos c1]
      show cmp (p.getD 0 0) (p.getD (m - 1) 0) _ s'
      refine hc _ _ _ s' (P.lt (by omega)) (P.lt (by omega)) i' fun s2 i2=>?_
      have ne:kf (p.getD 0 0)≠kf (p.getD (m - 1) 0):=fun z=>by
        have:=P.inj (i:=0) (j:=m - 1) (by omega) (by omega) (hd _ _ (P.lt (by omega)) (P.lt (by omega)) z)
        omega
      have le:ky kf p 0≤ky kf p (m - 1):=u 0 (m - 1) (by omega) (by omega)
      unfold ky at le
      rw [decide_eq_true (show kf (p.getD 0 0) < kf (p.getD (m - 1) 0) by omega)];dsimp only;rw [if_pos rfl]
      exact h m p s2 l1 (by omega) P u i2
    · rw [if_neg c1]
      have e1:m=1:=by omega
      subst e1
      unfold kas_descPart
      rw [KasT.kasWp_bind]
      refine aa0 hc hd P (n - (1+1)) (1+1) s' (by omega) (by omega) (fun x y hxy hy=>?_) i' fun m s2 k1 k2 dn i2=>?_
      · have ex:x=0:=by omega
        have ey:y=1:=by omega
        subst ex;subst ey
        exact l3 (by omega)
      · dsimp only
        rw [if_neg (by omega)]
        unfold kas_tail3
        rw [KasT.kasWp_bind]
        refine a8D hc (P.rev (m:=m)) (n - m) m s2 (by omega) (by omega) (dn.up (by rw [P.size];omega)) i2 fun k s3 q1 q2 u3 _ i3=>h k _ s3 (by omega) (by omega) P.rev u3 i3
theorem zT {n:Nat} (hc:Asks cmp I kf n) {p:Array Nat} (P:Pm n p) {k:Nat} (hk:k < n) (u:Up kf p k) {Q:Nat→Shared→Prop}:∀ (f l r:Nat) (s:Shared),l≤r→r≤k→r - l≤f→(∀ x,x < l→ky kf p x≤ky kf p k)→(∀ x,r≤x→x < k→ky kf p k < ky kf p x)→I s →
      (∀ m s',m≤k→(∀ x,x < m→ky kf p x≤ky kf p k)→(∀ x,m≤x→x < k→ky kf p k < ky kf p x)→I s'→Q m s')→(kas_place p k f l r).kasWp cmp Q s
  | 0,l,r,s,h1,h2,h3,a,b,i,h=>h l s (by omega) a (fun x hx=>b x (by omega)) i
  | f+1,l,r,s,h1,h2,h3,a,b,i,h=>by
    unfold kas_place
    by_cases c0:l≥r
    · rw [if_pos c0]
      exact h l s (by omega) a (fun x hx=>b x (by omega)) i
    · rw [if_neg c0]
      show cmp (p.getD k 0) (p.getD ((l+r) / 2) 0) _ s
      refine hc _ _ _ s (P.lt (by omega)) (P.lt (by omega)) i fun s' i'=>?_
      by_cases c:kf (p.getD k 0) < kf (p.getD ((l+r) / 2) 0)
      · rw [decide_eq_true c];dsimp only;rw [if_pos rfl]
        refine zT hc P hk u f l ((l+r) / 2) s' (by omega) (by omega) (by omega) a (fun x hx hxk=>?_) i' h
        have:=u ((l+r) / 2) x hx hxk
        have c':ky kf p k < ky kf p ((l+r) / 2):=c
        omega
      · rw [decide_eq_false c];dsimp only;rw [if_neg (by decide)]
        refine zT hc P hk u f ((l+r) / 2+1) r s' (by omega) (by omega) (by omega) (fun x hx=>?_) b i' h
        have:=u x ((l+r) / 2) (by omega) (by omega)
        have c':ky kf p ((l+r) / 2)≤ky kf p k:=by unfold ky;omega
        omega
theorem aeT {n:Nat} (hc:Asks cmp I kf n) {Q:Array Nat→Shared→Prop}:∀ (f k:Nat) (p:Array Nat) (s:Shared),Pm n p→1≤k→k+f=n→Up kf p k→I s→(∀ q s',Pm n q→Up kf q n→I s'→Q q s')→(kas_bin f p k).kasWp cmp Q s
  | 0,k,p,s,P,h1,h2,u,i,h=>h p s P (by rw [← h2];exact u) i
  | f+1,k,p,s,P,h1,h2,u,i,h=>by
    unfold kas_bin
    rw [KasT.kasWp_bind]
    refine zT hc P (by omega) u k 0 k s (Nat.zero_le _) (Nat.le_refl _) (by omega) (fun x hx=>absurd hx (Nat.not_lt_zero _)) (fun x hx hk=>absurd hx (by omega)) i fun m s' l1 a b i'=>?_
    have hs:k < p.size:=by rw [P.size];omega
    refine aeT hc f (k+1) _ s' ⟨by rw [bubble_size];exact P.size,((bubble_perm p k _).toList).trans P.perm⟩ (by omega) (by omega) (fun x y hxy hy=>?_) i' h
    have e:∀ z,ky kf (bubble p k (k - m)) z=if z=m then ky kf p k else if m < z∧z≤k then ky kf p (z - 1) else ky kf p z:=fun z=>by
      have e:=getElem?_bubble hs (k - m) (by omega) z
      rw [show k - (k - m)=m by omega] at e
      by_cases c:z=m
      · rw [if_pos c] at e ⊢
        exact congrArg kf (yG e)
      · rw [if_neg c] at e ⊢
        by_cases c2:m < z∧z≤k
        · rw [if_pos c2] at e ⊢
          exact congrArg kf (yG e)
        · rw [if_neg c2] at e ⊢
          exact congrArg kf (yG e)
    have e1:ky kf (bubble p k (k - m)) m=ky kf p k:=by rw [e,if_pos rfl]
    have e2:∀ z,m < z→z≤k→ky kf (bubble p k (k - m)) z=ky kf p (z - 1):=fun z h1 h2=>by rw [e,if_neg (by omega),if_pos ⟨h1,h2⟩]
    have e3:∀ z,z < m→ky kf (bubble p k (k - m)) z=ky kf p z:=fun z h1=>by rw [e,if_neg (by omega),if_neg (by omega)]
    rcases Nat.lt_trichotomy x m with c | c | c
    · rw [e3 x c]
      rcases Nat.lt_trichotomy y m with d | d | d
      · rw [e3 y d];exact u x y hxy (by omega)
      · rw [d,e1];exact a x c
      · rw [e2 y d (by omega)];exact u x (y - 1) (by omega) (by omega)
    · rw [c,e1]
      by_cases d:y=m
      · rw [d,e1];exact Int.le_refl _
      · rw [e2 y (by omega) (by omega)];exact Int.le_of_lt (b (y - 1) (by omega) (by omega))
    · rw [e2 x c (by omega),e2 y (by omega) (by omega)]
      exact u (x - 1) (y - 1) (by omega) (by omega)
theorem aj3 {n:Nat} (hc:Asks cmp I kf n) (hd:∀ i j,i < n→j < n→kf i=kf j→i=j) (h2:2≤n) {Q:Array Nat→Shared→Prop} {s:Shared} (i:I s) (h:∀ q s',Pm n q→Up kf q n→I s'→Q q s'):(kas_sort n).kasWp cmp Q s:=by
  unfold kas_sort
  rw [KasT.kasWp_bind]
  refine aeS hc hd h2 ⟨by simp,by simp⟩ i fun m q s' l1 l2 P u i'=>?_
  dsimp only
  by_cases c:m < n
  · rw [if_pos c]
    have e:max m 1=m:=by omega
    rw [e]
    exact aeT hc (n - m) m q s' P l1 (by omega) u i' h
  · rw [if_neg c]
    have:m=n:=by omega
    subst this
    exact h q s' P u i'
end
section
variable {prog:Program} {w:World} {A:Around} {E:Value→Shared→Prop} {s:Shared}
end
def auT (a b:Int×Int):Prop:=a.1 < b.1∨(a.1=b.1∧a.2 < b.2)
instance (a b:Int×Int):Decidable (auT a b):=by unfold auT;infer_instance
section
variable {prog:Program} {w:World} {A:Around} {E:Value→Shared→Prop} {s:Shared}
end
end L2
namespace L2
open PySem PySem.Spec PyProof.Rows PySem.W
theorem getD_at {α:Type} {l:List α} {i:Nat} {d:α} (h:i < l.length):l.getD i d=l[i]:=by simp [List.getD,h]
section
variable {X:Cx}
theorem a2Q {xs:List V} {us:List Value} (r:Vals xs us):∀ {l:List Nat},(∀ i∈l,i < xs.length)→Vals (l.map fun i=>xs.getD i .non) (l.map fun i=>us.getD i Value.none)
  | [],_ => .nil
  | i :: l,h=>by
    have hi:=h i (by simp)
    obtain ⟨u,e1,ru⟩:=r.get (List.getElem?_eq_getElem hi)
    have e2:xs.getD i .non=xs[i]:=by simp [List.getD,hi]
    have e3:us.getD i Value.none=u:=by simp [List.getD,e1]
    refine .cons ?_ (a2Q r fun j hj=>h j (by simp [hj]))
    show RelV (xs.getD i .non) (us.getD i Value.none)
    rw [e2,e3]
    exact ru
end
end L2
namespace L2
open PySem PySem.Spec PyProof.Rows PySem.W
def zU (h:Heap) (d:Addr) (es:Array DictEntry) (ep:Nat):Prop:=∃ o,h.get? d=some o∧o.ExactDict∧o.data = .dict es ep
section
variable {prog:Program} {w:World} {A:Around} {E:Value→Shared→Prop} {s:Shared} {d it:Addr} {es:Array DictEntry} {ep i:Nat}
theorem zU.typeIs (hm:zU s.heap d es ep):s.TypeIs (.ref d) "dict" := let ⟨o,ho,hc,_⟩:=hm;⟨o,ho,hc.1⟩
theorem zU.lt {h:Heap} (hm:zU h d es ep):d < h.objs.size:=let ⟨_,ho,_⟩:=hm;Heap.lt_size ho
theorem zU.at {h h':Heap} (hm:zU h d es ep) (k:∀ o,h.get? d=some o→h'.get? d=some o):zU h' d es ep:=let ⟨o,ho,r⟩:=hm;⟨o,k o ho,r⟩
end
end L2
namespace L2
open PySem PySem.Spec PyProof.Rows PySem.W
section
variable {X:Cx} {tg:Expr}
end
section
variable {X:Cx} {tg:Expr}
end
end L2
namespace L2
open PySem PySem.Spec PyProof.Rows PySem.W
section
variable {prog:Program} {w:World} {A:Around} {E:Value→Shared→Prop} {s:Shared}
abbrev TK (prog:Program) (w:World):=tupleKind (aH prog w)
def auU (prog:Program) (w:World) (h:Heap) (v:Value) (x:List Key×Addr×Value):Prop:=∃ p o n,v = .ref p∧h.get? p=some o∧o.cls = .type "tuple" ∧ o.data = .seq #[.ref x.2.1,x.2.2] n∧(TK prog w).is h x.1 x.2.1
theorem aa1 {h h':Heap} {ks:List Key} {a:Addr} (x:(TK prog w).is h ks a) (k:∀ o,h.get? a=some o→h'.get? a=some o):(TK prog w).is h' ks a:=by
  obtain ⟨o,its,n,h1,r⟩:=x
  exact ⟨o,its,n,k _ h1,r⟩
def aj4 (prog:Program) (w:World) (I d:Addr) (h:Heap) (v:Value) (x:List Key×Addr×Value):Prop:=∃ p o n,v = .ref p∧h.get? p=some o∧o.cls = .type "tuple" ∧ o.data = .seq #[.ref x.2.1,x.2.2] n∧(TK prog w).is h x.1 x.2.1∧p≠I∧p≠d∧x.2.1≠I∧x.2.1≠d
theorem aj4.keep {I d:Addr} {h h':Heap} {v:Value} {x:List Key×Addr×Value} (q:aj4 prog w I d h v x) (k:∀ b o,b≠d→b≠I→h.get? b=some o→h'.get? b=some o):aj4 prog w I d h' v x:=by
  obtain ⟨p,o,n,e,h1,h2,h3,h4,h5,h6,h7,h8⟩:=q
  exact ⟨p,o,n,e,k _ _ h6 h5 h1,h2,h3,aa1 h4 fun o e=>k _ _ h8 h7 e,h5,h6,h7,h8⟩
theorem auU.ok {I d:Addr} {h h':Heap} {v:Value} {x:List Key×Addr×Value} (q:auU prog w h v x) (hI:h.objs.size≤I) (hd:h.objs.size≤d) (k:∀ b o,h.get? b=some o→h'.get? b=some o):aj4 prog w I d h' v x:=by
  obtain ⟨p,o,n,e,h1,h2,h3,h4⟩:=q
  have l1:=Heap.lt_size h1
  have l2:x.2.1 < h.objs.size:=by
    obtain ⟨o2,its,n2,z,_⟩:=id h4
    exact Heap.lt_size z
  exact ⟨p,o,n,e,k _ _ h1,h2,h3,aa1 h4 fun o e=>k _ _ e,Nat.ne_of_lt (Nat.lt_of_lt_of_le l1 hI),Nat.ne_of_lt (Nat.lt_of_lt_of_le l1 hd),Nat.ne_of_lt (Nat.lt_of_lt_of_le l2 hI),Nat.ne_of_lt (Nat.lt_of_lt_of_le l2 hd)⟩
end
end L2
namespace L2
open PySem PySem.Spec PyProof.Rows PySem.W
inductive Prs (K:Fg) (H:Hp):List (List Key×D)→List (List Key×Addr×Value)→Prop where
  | nil:Prs K H [] []
  | cons {ks:List Key} {b:Addr} {vz:V} {u:Value} {d:D} {kvs:List (List Key×D)} {ps:List (List Key×Addr×Value)}:H b=some (.tup (ks.map kV))→RD K H d vz→RelV vz u→Prs K H kvs ps→Prs K H ((ks,d) :: kvs) ((ks,b,u) :: ps)
theorem Prs.len {K:Fg} {H:Hp} {kvs:List (List Key×D)} {ps:List (List Key×Addr×Value)} (h:Prs K H kvs ps):kvs.length=ps.length:=by
  induction h with
  | nil=>rfl
  | cons _ _ _ _ ih=>simp [ih]
section
variable {X:Cx}
end
end L2
namespace L2
open PySem PySem.Spec PyProof.Rows
section
variable {X:Cx} {pins:List (Addr×Obj)} {σ:St} {H:Hp} {s:Shared} {i:Nat} {nm:Str}
end
end L2
namespace L2
open PySem PySem.Spec PyProof.Rows PySem.W
section
variable {prog:Program} {w:World} {A:Around} {E:Value→Shared→Prop} {s:Shared}
end
section
variable {X:Cx}
end
end L2
namespace L2
open PySem PySem.Spec PyProof.Rows Builtin.Str
section
variable {prog:Program} {w:World} {A:Around} {E:Value→Shared→Prop} {s:Shared}
theorem aj5 {x y:Str} {t u:Tok} {Q:Value→Shared→Prop} (hy:(y.length == 0)=false) (hsz:x.length+2≤sizeLine)
    (h:∀ l k,l.map (·.1)=Txt.split x y→Q (.ref s.heap.objs.size) { s with heap:=s.heap.push { cls := .type "list",data := .seq (strValues l).toArray },toks:=k }):wpAny (model prog w) A (call (.builtin "str.split") [.str x t,.str y u]) Q E s:=by
  have hn:(partsBetween x (occurrences x y 0 x.length (x.length+1)) y.length).length≤sizeLine:=by
    have e1:=StrLaws.occ_length_le x y 0 x.length (x.length+1)
    rw [length_partsBetween];omega
  cases h1:(decide (x.length < y.length) || decide (strKind x < strKind y))
  · cases hf:(occurrences x y 0 x.length (x.length+1)).isEmpty
    · refine call_meets F.slot_str_split (typeIs_str _ _ _) F.entry_str_split (F.args_str_split_2 _ _) (meets_str_split_sep x y t u h1 hy hf (by omega) hn) ?_
      show wants Q E _ { s with toks:=_,heap:=s.heap.push { cls := .type "list",data := .seq (strsFrom s.toks (partsBetween x (occurrences x y 0 x.length (x.length+1)) y.length)).toArray } }
      rw [strsFrom_eq]
      exact h (numbered s.toks _) _ ((numbered_texts _ _).trans ((if_neg (ne_true_of_eq_false h1)).trans (if_neg (ne_true_of_eq_false hf))).symm)
    · exact call_meets F.slot_str_split (typeIs_str _ _ _) F.entry_str_split (F.args_str_split_2 _ _) (meets_str_split_not_found x y t u h1 hy hf)
        (h [(x,t)] s.toks ((if_neg (ne_true_of_eq_false h1)).trans (if_pos hf)).symm)
  · exact call_meets F.slot_str_split (typeIs_str _ _ _) F.entry_str_split (F.args_str_split_2 _ _) (meets_str_split_cannot_occur x y t u h1) (h [(x,t)] s.toks (if_pos h1).symm)
end
theorem a2R:∀ l:List (Str×Tok),Vals ((l.map (·.1)).map V.str) (strValues l)
  | [] => .nil
  | p :: r => .cons ⟨p.2,rfl⟩ (a2R r)
theorem a6K {K:Fg} {H:Hp}:∀ l:List Str,bF K H (l.map D.str) (l.map V.str)
  | [] => .nil
  | x :: r => .cons (.str x) (a6K r)
section
variable {X:Cx}
def yH:xU:=fun x xs G R=>match x,xs with
  | .str a,[.str b]=>(b.length == 0)=false∧a.length+2≤sizeLine∧(Txt.split a b).length≤sizeLine∧∀ q,G q=none→R (.ref q) (aL G q (.lst ((Txt.split a b).map D.str)))
  | _,_=>False
theorem m_split:rA X "str.split" yH:=fun pins s σ H x xs vx vs u us G R Q I rx rs ru rv g q k=>by
  cases rx with
  | str j =>
    cases rs with
    | nil=>exact False.elim q
    | cons r rr =>
      cases rr with
      | cons _ _=>cases r <;> exact False.elim q
      | nil =>
        cases r with
        | str i =>
          obtain ⟨t,rfl⟩:=ru
          obtain ⟨u2,rfl,t2,rfl⟩:=vals1 rv
          obtain ⟨q1,q2,q3,q4⟩:=q
          refine aj5 q1 q2 fun l tk e=>?_
          have fr:H s.heap.objs.size=none:=I.hok.fresh (Nat.le_refl _)
          have sn:Same H (upd H s.heap.objs.size (.lst ((Txt.split j i).map V.str))):=aW fr
          have J:Inv X pins σ (upd H s.heap.objs.size (.lst ((Txt.split j i).map V.str))) { s with heap:=s.heap.push { cls := .type "list",data := .seq (strValues l).toArray },toks:=tk } :=
            I.laid (t':=tk) (o := .lst _) (fun b o e=>Heap.get?_push_of_some _ e) (Nat.le_refl _) ⟨by rw [List.length_map];exact q3,_,0,by rw [← e];exact a2R l,Heap.get?_push_size _ rfl⟩
          exact ⟨.ref s.heap.objs.size,_,J,rfl,k _ _ (.ref _) _ (.same sn) (.ref _) (g.put (u := .lst _) fr ⟨_,aD,a6K _⟩) (q4 _ (gC g fr (qP J)))⟩
        | _=>exact False.elim q
  | _ =>
    cases rs with
    | nil=>exact False.elim q
    | cons r rr=>cases rr <;> cases r <;> exact False.elim q
def alE:List D→Gp→dG→Prop:=fun xs G R=>match xs with
  | [.int i]=>i.natAbs.log2 < 1920∧R (.str (toString i)) G
  | [.str z]=>R (.str z) G
  | _=>False
theorem a4K:qG X (.type "str") (fun xs H Q=>(∃ i,xs=[.int i]∧i.natAbs.log2 < 1920∧Q (.str (toString i)) H)∨∃ z,xs=[.str z]∧Q (.str z) H):=by
  intro pins s σ H xs us Q I r h
  rcases h with ⟨i,rfl,hz,q⟩ | ⟨z,rfl,q⟩
  · obtain ⟨u,rfl,t,rfl⟩:=vals1 r
    exact PySem.P.str_of_int hz ⟨.str _,H,I.tok _,⟨_,rfl⟩,q⟩
  · obtain ⟨u,rfl,t,rfl⟩:=vals1 r
    exact PySem.P.str_of_str ⟨.str _,H,I,⟨_,rfl⟩,q⟩
theorem auW:dB X (.type "str") alE:=dB.of a4K fun H xs vs G R Q rx g q k=>by
  cases rx with
  | nil=>exact False.elim q
  | cons r rr =>
    cases rr with
    | cons _ _=>cases r <;> exact False.elim q
    | nil =>
      cases r with
      | int i=>exact .inl ⟨i,rfl,q.1,fun _=>k _ H _ G (.refl H) (.str _) g q.2⟩
      | str z=>exact .inr ⟨z,rfl,fun _=>k _ H _ G (.refl H) (.str _) g q⟩
      | _=>exact False.elim q
def vD:List D→Gp→dG→Prop:=fun xs G R=>match xs with
  | [.ref q]=>(match aZ G q with
    | some ds=>R (.tup ds) G
    | none=>False)
  | _=>False
theorem aj6:dB X (.type "tuple") vD:=dB.of a1C fun H xs vs G R Q rx g q k=>by
  cases rx with
  | nil=>exact False.elim q
  | cons r rr =>
    cases rr with
    | cons _ _=>cases r <;> exact False.elim q
    | nil =>
      cases r with
      | ref a =>
        have q':(match aZ G a with
          | some ds=>R (.tup ds) G
          | none=>False):=q
        split at q'
        · rename_i ds e1
          obtain ⟨xs,h1,r1⟩:=bR g e1
          refine ⟨a,xs,rfl,.inl ⟨h1,fun l hl kf=>?_⟩⟩
          have sn:Same H (upd H l (.tup xs)):=aW hl
          exact k _ _ _ _ (.same sn) (.tup (pF.of aD) (r1.mono (.same sn)) (ai5 aD)) (g.same sn) q'
        · exact q'.elim
      | _=>exact False.elim q
end
end L2
namespace L2
open PySem PySem.Spec PyProof.Rows
section
variable {X:Cx} {pins:List (Addr×Obj)} {σ:St} {H:Hp} {s:Shared} {tl:List (Addr×List V)}
end
end L2
namespace L2
open PySem PySem.Spec PyProof.Rows PySem.W
section
variable {prog:Program} {w:World} {A:Around} {E:Value→Shared→Prop} {s:Shared}
def aj7 (prog:Program) (w:World) (I d:Addr) (h:Heap) (v:Value) (x:Key×Value):Prop:=∃ p o n key,v = .ref p∧h.get? p=some o∧o.cls = .type "tuple" ∧ o.data = .seq #[key,x.2] n∧(aH prog w).is x.1 key=true∧p≠I∧p≠d
theorem aj7.keep {I d:Addr} {h h':Heap} {v:Value} {x:Key×Value} (q:aj7 prog w I d h v x) (k:∀ b o,b≠d→b≠I→h.get? b=some o→h'.get? b=some o):aj7 prog w I d h' v x:=by
  obtain ⟨p,o,n,key,e,h1,h2,h3,h4,h5,h6⟩:=q
  exact ⟨p,o,n,key,e,k _ _ h6 h5 h1,h2,h3,h4,h5,h6⟩
def auX (prog:Program) (w:World) (h:Heap) (v:Value) (x:Key×Value):Prop:=∃ p o n key,v = .ref p∧h.get? p=some o∧o.cls = .type "tuple" ∧ o.data = .seq #[key,x.2] n∧(aH prog w).is x.1 key=true
theorem auX.ok {I d:Addr} {h h':Heap} {v:Value} {x:Key×Value} (q:auX prog w h v x) (hI:h.objs.size≤I) (hd:h.objs.size≤d) (k:∀ b o,h.get? b=some o→h'.get? b=some o):aj7 prog w I d h' v x:=by
  obtain ⟨p,o,n,key,e,h1,h2,h3,h4⟩:=q
  have l1:=Heap.lt_size h1
  exact ⟨p,o,n,key,e,k _ _ h1,h2,h3,h4,Nat.ne_of_lt (Nat.lt_of_lt_of_le l1 hI),Nat.ne_of_lt (Nat.lt_of_lt_of_le l1 hd)⟩
end
section
variable {X:Cx}
end
end L2
namespace L2
open PySem PySem.Spec PyProof.Rows PySem.W
section
variable {prog:Program} {w:World} {A:Around} {E:Value→Shared→Prop} {s:Shared}
end
section
variable {X:Cx}
end
end L2
namespace L2
open PySem PySem.Spec PyProof.Rows PySem.W
section
variable {prog:Program} {w:World} {A:Around} {E:Value→Shared→Prop} {s:Shared}
end
section
variable {X:Cx}
end
end L2
namespace L2
open PySem PySem.Spec PyProof.Rows PySem.W
section
variable {prog:Program} {w:World} {A:Around} {E:Value→Shared→Prop} {s:Shared}
section
variable {κ:Type} [DecidableEq κ] {knd:HeapKind prog w κ}
end
end
section
variable {X:Cx}
end
end L2
namespace L2
open PySem PySem.Spec PyProof.Rows PySem.W
section
variable {X:Cx} {A:Around} {E:Value→Shared→Prop}
theorem abW {pins:List (Addr×Obj)} {σ:St} {H H':Hp} {s:Shared} {a:Addr} {y v:V} {u r:Value} {Q:Unit→Shared→Prop} (hu:A.units < cLine) (I:Inv X pins σ H s) (g:abF H a y v H') (ry:RelV y u) (rv:RelV v r) (h:∀ s',Inv X pins σ H' s'→Q () s'):wpAny (model X.prog X.w) A (dictSet a u r) Q E s:=by
  rcases g with ⟨kvs,k,e,ey,l,eH⟩ | ⟨kvs,k,b,e,ey,eb,l,eH⟩
  · subst ey eH
    obtain ⟨z,hd,vs,rel,dd⟩:=a9D I.hok e
    have lp:=lQ kvs k v
    refine wpAny_dictSet_pairs (hsz:=by rw [← rel.length];exact z) (uP ry) dd fun h' d2 hs=>h _ (lR I (by rw [e];exact True.intro) hs (let ⟨q,_,_,hq,_⟩:=d2;⟨q,hq⟩) (a3L (by omega) hd (rel.put k rv) d2))
  · subst ey eH
    cases (show u=Value.ref b from ry)
    obtain ⟨z,hd,xs,rel,dd⟩:=a9E I.hok e
    have lp:=lQ kvs k v
    refine wpAny_dictSet_heap (hsz:=by rw [← Paired.length rel];exact z) (show A.units < cLine from hu) (qK I.hok eb) dd fun h' d2 hs=>h _ ?_
    obtain ⟨q,es,ep,hq,h2,h3,h4,_,h5⟩:=d2
    refine lR I (by rw [e];exact True.intro) hs ⟨q,hq⟩ ⟨by omega,hd,_,(rel.put k eb rv).keeps fun c ys ec=>?_,q,es,ep,hq,h2,h3,h4,h5⟩
    rw [aG (jN ec e (fun z=>nomatch z))]
    exact ec
end
end L2
namespace L2
open PySem PySem.Spec PyProof.Rows PySem.W
structure Fz (X:Cx) (p:Addr):Prop where
  free:∀ ob,X.s₀.heap.get? p=some ob→X.H₀ p=none→p∈X.ex
  tup:∀ xs,X.H₀ p≠some (.tup xs)
  mV:∀ o w,X.H₀ p≠some (.mV o w)
  qF:∀ ps,X.H₀ p≠some (.qF ps)
section
variable {X:Cx} {pins:List (Addr×Obj)} {σ:St} {H:Hp} {s:Shared}
theorem Fz.of {p:Addr} {u:HO} (I:Inv X pins σ H s) (hu:H p=some u) (h1:∀ xs,u ≠ .tup xs) (h2:∀ ob w,u ≠ .mV ob w) (h3:∀ ps,u ≠ .qF ps):Fz X p:=by
  refine ⟨fun ob q n=>?_,fun xs q=>?_,fun o w q=>?_,fun ps q=>?_⟩
  · apply Classical.byContradiction
    intro hx
    have:=I.base.free p ob q n hx
    rw [hu] at this;cases this
  · have:=I.base.tups p xs q
    rw [hu] at this;exact h1 xs (Option.some.inj this)
  · have:=I.base.cQ p o w q
    rw [hu] at this;exact h2 o w (Option.some.inj this)
  · obtain ⟨more,this⟩:=I.base.m7 p ps q
    rw [hu] at this;exact h3 _ (Option.some.inj this)
end
section
variable {X:Cx} {pins:List (Addr×Obj)} {σ:St} {H:Hp} {s:Shared}
end
section
variable {X:Cx}
end
section
variable {X:Cx} {pins:List (Addr×Obj)} {σ:St} {H:Hp} {s:Shared}
end
section
variable {X:Cx} {pins:List (Addr×Obj)} {σ:St} {H:Hp} {s:Shared}
end
end L2
namespace L2
open PySem PySem.Spec PyProof.Rows PySem.W
structure Tt (H H':Hp):Prop where
  tups:∀ a xs,H a=some (.tup xs)→H' a=some (.tup xs)
  ao4:∀ a o xs,H a=some (.mV o (.tup xs))→H' a=some (.mV o (.tup xs))
  aCR:∀ a o φ,H a=some (.mV o (.ext φ))→H' a=some (.mV o (.ext φ))
theorem Tt.sqT {K:Fg} {H H':Hp} (t:Tt H H') {a:Addr} {xs:List V} (h:pF K H a xs):pF K H' a xs:=by
  rcases h with (h | ⟨o,h⟩) | h
  · exact .inl (.inl (t.tups _ _ h))
  · exact .inl (.inr ⟨o,t.ao4 _ _ _ h⟩)
  · exact .inr h
theorem a5U.tO {H H':Hp} (t:Tt H H') {a:Addr} {xs:List V} (h:a5U H a xs):a5U H' a xs:=trivial
mutual
theorem RD.tO {K:Fg} {H H':Hp} (t:Tt H H'):∀ {d:D} {v:V},RD K H d v→RD K H' d v
  | _,_,.non => .non
  | _,_,.bl b => .bl b
  | _,_,.int i => .int i
  | _,_,.str x => .str x
  | _,_,.ty n => .ty n
  | _,_,.ref a => .ref a
  | _,_,.tup h r e => .tup (t.sqT h) (bF.tO t r) (e.tO t)
theorem bF.tO {K:Fg} {H H':Hp} (t:Tt H H'):∀ {ds:List D} {vs:List V},bF K H ds vs→bF K H' ds vs
  | _,_,.nil => .nil
  | _,_,.cons h r => .cons (RD.tO t h) (bF.tO t r)
end
theorem SR.tO {K:Fg} {H H':Hp} (t:Tt H H'):∀ {ρ:aQ} {σ:St},SR K H ρ σ→SR K H' ρ σ
  | _,_,.nil => .nil
  | _,_,.none r => .none (SR.tO t r)
  | _,_,.some h r => .some (h.tO t) (SR.tO t r)
section
variable {X:Cx} {pins:List (Addr×Obj)} {σ:St} {H:Hp} {s:Shared}
end
section
variable {X:Cx}
end
section
variable {X:Cx}
end
end L2
namespace L2
open PySem PySem.Spec PyProof.Rows PySem.W
section
variable {X:Cx}
end
end L2
namespace L2
open PySem PySem.Spec PyProof.Rows
section
variable {X:Cx} {es:List Expr} {kt:Nat} {pt:Pos}
theorem a2S {K:Fg} {H:Hp}:∀ {ns:List Int} {vs:List V},bF K H (ns.map D.int) vs→vs=ns.map V.int
  | [],_,.nil=>rfl
  | n :: ns,_,.cons r rr=>by cases r;rw [a2S rr];rfl
theorem a2T:∀ (ns ms:List Int),j4 (ns.map D.int) (ms.map D.int)=decide (ns=ms)
  | [],[]=>rfl
  | [],_ :: _=>rfl
  | _ :: _,[]=>rfl
  | n :: ns,m :: ms=>by
    show (eqP (.int n) (.int m)&&j4 (ns.map D.int) (ms.map D.int))=_
    rw [a2T ns ms]
    have:eqP (.int n) (.int m)=decide (n=m):=by rw [eqP];exact Bool.eq_iff_iff.mpr (by simp)
    rw [this]
    simp [Bool.decide_and]
theorem sH (n:Nat) (ns:List Int):aO (n+1) (.tup (ns.map D.int))=true:=by
  simp only [aO,List.all_eq_true,List.mem_map]
  rintro x ⟨i,_,rfl⟩
  cases n <;> rfl
end
end L2
namespace L2
open PySem PySem.Spec PyProof.Rows
section
variable {X:Cx}
open Classical in
end
end L2
namespace L2
open PySem PySem.Spec PyProof.Rows PySem.W
section
variable {X:Cx}
def awU:xU:=fun x xs G R=>match x,xs with
  | .str j,[]=>Builtin.Str.tooLong (Txt.upper j).length=false∧R (.str (Txt.upper j)) G
  | _,_=>False
def nG:xU:=fun x xs G R=>match x,xs with
  | .str j,[.str y]=>R (.bl (Txt.startswith j y)) G
  | _,_=>False
theorem a6L:rA X "str.startswith" nG:=fun pins s σ H x xs vx vs u us G R Q I rx rs ru rv g q k=>by
  unfold nG at q
  split at q
  · rename_i j y
    cases rx
    cases rs with
    | cons r1 rr =>
    cases rr
    cases r1
    obtain ⟨t,rfl⟩:=ru
    obtain ⟨u2,rfl,ru2⟩:=vals1 rv
    obtain ⟨t2,rfl⟩:=ru2
    exact SC.startswith ⟨.bl _,H,I,rfl,k _ H _ G (.refl H) (.bl _) g q⟩
  · exact q.elim
theorem countIn_strs (k:Str):∀ (ys:List Str),countIn (.str k) (ys.map PyData.str)=((ys.countP (· == k):Nat):Int)
  | []=>rfl
  | n :: r=>by
    rw [List.countP_cons,List.map_cons,Spec.countIn,countIn_strs k r]
    simp only [Spec.same]
    rcases Bool.eq_false_or_eq_true (n == k) with hb | hb <;> simp only [hb,Bool.false_eq_true,if_true,if_false] <;> omega
def sI:xU:=fun x xs G R=>match x,xs with
  | .ref q,[.str k]=>(match aZ G q with
    | some ds=>(match lV ds with
      | some ys=>R (.int ((ys.countP (· == k):Nat):Int)) G
      | none=>False)
    | none=>False)
  | _,_=>False
theorem aa2:rA X "list.count" sI:=fun pins s σ H x xs vx vs u us G R Q I rx rs ru rv g q k=>by
  unfold sI at q
  split at q
  · rename_i a y
    split at q
    · rename_i ds e1
      split at q
      · rename_i ys e2
        cases rx
        obtain rfl:u=Value.ref a:=ru
        cases rs with
        | cons r1 rr =>
        cases rr
        cases r1
        obtain ⟨u2,rfl,ru2⟩:=vals1 rv
        obtain ⟨t2,rfl⟩:=ru2
        obtain ⟨ws,hq,r1⟩:=bR g e1
        obtain ⟨its,rv',⟨o,n,p1,p2,p3,p4⟩,hz⟩:=I.list hq
        refine count_list_strs (vs:=its) ⟨o,p1,p2,n,p4⟩ (vA r1 rv' e2) ?_
        rw [countIn_strs]
        exact ⟨.int _,H,I.tok _,⟨_,rfl⟩,k _ H _ G (.refl H) (.int _) g q⟩
      · exact q.elim
    · exact q.elim
  · exact q.elim
theorem a2U {K:Fg} {H:Hp}:∀ {ds:List D} {xs:List V} (j:Nat),bF K H ds xs→bF K H (ds.eraseIdx j) (xs.eraseIdx j)
  | _,_,_,.nil => .nil
  | _,_,0,.cons _ r=>r
  | _,_,j+1,.cons h r => .cons h (a2U j r)
theorem zV:∀ {xs:List V} {us:List Value} (j:Nat),Vals xs us→Vals (xs.eraseIdx j) (us.eraseIdx j)
  | _,_,_,.nil => .nil
  | _,_,0,.cons _ r=>r
  | _,_,j+1,.cons h r => .cons h (zV j r)
def wU:xU:=fun x xs G R=>match xs with
  | [.int i]=>a2M x G fun p ds=>∃ (j:Nat) (d:D),i=(j:Int)∧ds[j]?=some d∧R d (aL G p (.lst (ds.eraseIdx j)))
  | _=>False
theorem aeU:rA X "list.pop" wU:=fun pins s σ H x xs vx vs u us G R Q I rx rs ru rv g q k=>by
  have big:sizeLine < 2 ^ 62:=by decide
  unfold wU at q
  split at q
  · rename_i i
    obtain ⟨p,ds,ys,rfl,rfl,e,e1,r,j,d,ei,hj,q⟩:=a6F rx g q
    cases rs with
    | cons r1 rr =>
    cases rr
    cases r1
    obtain rfl:u=Value.ref p:=ru
    obtain ⟨u2,rfl,ru2⟩:=vals1 rv
    obtain ⟨t2,rfl⟩:=ru2
    obtain ⟨hz,its,n,rvs,ho⟩:=(show cG X.prog X.w H s.heap p (.lst ys) from I.hok p _ e1)
    have hl:ds.length=ys.length:=r.length
    have hl2:ys.length=its.length:=rvs.length
    have jl:j < ds.length:=(List.getElem?_eq_some_iff.mp hj).1
    obtain ⟨v,ev,rd⟩:=r.get hj
    obtain ⟨w',ew,rw'⟩:=rvs.get ev
    have hk:seqIndex? i its.toArray.size=some j:=by
      rw [ei]
      unfold seqIndex?
      rw [List.size_toArray]
      simp
      omega
    have hf:Builtin.List.listFitsIndex i=true:=by
      rw [ei]
      unfold Builtin.List.listFitsIndex
      simp
      omega
    have hy:its.toArray[j]?=some w':=by rw [List.getElem?_toArray];exact ew
    have hz':its.toArray.size≤sizeLine:=by rw [List.size_toArray,← hl2];exact hz
    have mt:=PySem.MeetsSeq.list_pop_at p its.toArray n i t2 j w' hf hk hy hz'
    refine call_meets PySem.F.slot_list_pop ⟨_,ho,rfl⟩ PySem.F.entry_list_pop (PySem.F.args_list_pop_2 _ _) mt ⟨ho,?_⟩
    have hs:=Heap.SameBut.update s.heap p (Obj.mapSeq fun xs=>xs.eraseIdxIfInBounds j)
    obtain ⟨n',ho'⟩:∃ n',(s.heap.update p (Obj.mapSeq fun xs=>xs.eraseIdxIfInBounds j)).get? p=some (seqObj "list" (its.eraseIdx j).toArray n'):=by
      have:=get?_update_seq ho fun xs=>xs.eraseIdxIfInBounds j
      rw [show (its.toArray.eraseIdxIfInBounds j)=(its.eraseIdx j).toArray by simp] at this
      exact ⟨_,this⟩
    have le:(ys.eraseIdx j).length≤sizeLine:=Nat.le_trans (List.length_eraseIdx_le ..) hz
    have tt:Ts H (upd H p (.lst (ys.eraseIdx j))) := .turn e1 (fun _ z=>nomatch z) (fun _ _ z=>nomatch z)
    exact ⟨v,_,I.write (t':=s.toks) (x:=p) (e:=p) (o := .lst (ys.eraseIdx j)) (by rw [e1];exact True.intro) (.inl rfl) (fun b o hb z=>(hs.2 b hb).trans z) ⟨_,ho'⟩ ⟨le,its.eraseIdx j,n',zV j rvs,ho'⟩,rw',k _ _ _ _ tt (rd.mono tt) (g.turn (u := .lst (ds.eraseIdx j)) tt ⟨_,aD,(a2U j r).mono tt⟩) q⟩
  · exact q.elim
end
theorem aa3 {prog:Program} {w:World} {A:Around} {E:Value→Shared→Prop} {s:Shared} {items:Array Value} {x:Value} {e:Value→Bool} {j:Nat} (hj:j < items.size) (hit:e items[j]=true) (hno:∀ m (hm:m < items.size),m < j→e items[m]=false) (he:∀ y,y∈items→SeqAt.EqAt A s y x (e y))
    {Q:Option PySem.Fin×PUnit→Shared→Prop} (h:Q (some (.done (.ret (.int j s.toks))),⟨⟩) { s with toks:=s.toks+1 }):∀ (k i:Nat),i+k=items.size→i≤j →
    wpAny (model prog w) A (forIn (List.range' i k) ((none:Option PySem.Fin),PUnit.unit) fun (i:Nat) (_:Option PySem.Fin×PUnit)=>(match items[i]? with
      | some y=>do
        let b ← eqBool y x
        if b=true then do
          let r ← retInt (i:Int)
          pure (ForInStep.done (some r,PUnit.unit))
        else pure (ForInStep.yield (none,PUnit.unit))
      | _=>pure (ForInStep.yield (none,PUnit.unit)):Sem (ForInStep (Option PySem.Fin×PUnit)))) Q E s
  | 0,i,hk,hi=>absurd hj (by omega)
  | k+1,i,hk,hi=>by
    rw [List.range'_succ,List.forIn_cons]
    have hi2:i < items.size:=by omega
    rw [Array.getElem?_eq_getElem hi2]
    refine wpAny_bind (wpAny_bind (he _ (Array.getElem_mem hi2) prog w E _ ?_))
    by_cases c:i=j
    · subst c
      rw [if_pos hit]
      refine wpAny_bind (wpAny_bind (wpAny_mkInt (wpAny_pure ?_)))
      exact wpAny_pure (wpAny_pure h)
    · rw [if_neg (by rw [hno i hi2 (by omega)];decide)]
      exact wpAny_pure (aa3 hj hit hno he h k (i+1) (by omega) (by omega))
theorem a1I (l:Addr) (items:Array Value) (n:Nat) (dd:Option Addr) (sl:Array (Option Value)) (x:Value) (e:Value→Bool) (j:Nat) (hj:j < items.size) (hit:e items[j]=true) (hno:∀ m (hm:m < items.size),m < j→e items[m]=false) :
    Meets (Builtin.«tuple.index» ⟨[.ref l,x],[]⟩)
      (fun A R s=>s.heap.get? l=some { cls := .type "tuple",dict:=dd,data := .seq items n,slots:=sl }∧(∀ y,y∈items→SeqAt.EqAt A.in1 s y x (e y))∧R (.ok (.ret (.int j s.toks))) { s with toks:=s.toks+1 }) :=
  .of_wp fun prog w A R s h=>by
    obtain ⟨hl,he,h⟩:=h
    unfold Builtin.«tuple.index»
    refine wpAny_bind (wpAny_pure ?_)
    refine wpAny_bind (wpAny_tupleItemsOf hl rfl ?_)
    dsimp only
    refine wpAny_bind (wpAny_pure (wpAny_bind (wpAny_pure ?_)))
    rw [Std.Legacy.Range.forIn_eq_forIn_range']
    have es:List.range' [:min items.size items.size].start [:min items.size items.size].size [:min items.size items.size].step=List.range' 0 items.size:=by simp [Std.Legacy.Range.size]
    rw [es]
    refine wpAny_bind (aa3 hj hit hno he ?_ items.size 0 (by omega) (Nat.zero_le _))
    exact wpAny_pure ⟨_,rfl,h⟩
section
variable {X:Cx}
def iH:xU:=fun x xs G R=>match x,xs with
  | .tup ds,[.str k]=>(match lV ds with
    | some ys=>∃ j:Nat,ys[j]?=some k∧(∀ m,m < j→ys[m]?≠some k)∧R (.int j) G
    | none=>False)
  | _,_=>False
theorem aeV:rA X "tuple.index" iH:=fun pins s σ H x xs vx vs u us G R Q I rx rs ru rv g q k=>by
  unfold iH at q
  split at q
  · rename_i ds y
    split at q
    · rename_i ys e2
      obtain ⟨j,h1,h2,q⟩:=q
      cases rx with
      | @tup a ws _ sq rr _ =>
      obtain rfl:u=Value.ref a:=ru
      cases rs with
      | cons r1 rr2 =>
      cases rr2
      cases r1
      obtain ⟨u2,rfl,ru2⟩:=vals1 rv
      obtain ⟨t2,rfl⟩:=ru2
      obtain ⟨its,vi,⟨o,p1,p2,n,p3⟩,_⟩:=I.tuple sq
      have hi:StrsAre its ys:=vA rr vi e2
      have len:its.length=ys.length:=hi.len_eq
      have jl:j < ys.length:=(List.getElem?_eq_some_iff.mp h1).1
      have hobj:s.heap.get? a=some { cls := .type "tuple",dict:=o.dict,data := .seq its.toArray n,slots:=o.slots }:=by rw [p1];cases o;simp_all
      have at1:∀ m (hm:m < its.toArray.size) ym,ys[m]?=some ym→isStrOf y its.toArray[m]=(ym == y):=fun m hm ym em=>by
        obtain ⟨t,et⟩:=hi.at em
        have z:its.toArray[m] = .str ym t:=by
          rw [List.getElem?_eq_getElem (by simpa using hm)] at et
          simpa using et
        rw [z]
        rfl
      refine call_meets PySem.F.slot_tuple_index ⟨_,hobj,rfl⟩ PySem.F.entry_tuple_index (PySem.F.args_tuple_index_2 _ _) (a1I a its.toArray n o.dict o.slots (.str y t2) (isStrOf y) j (by simpa [len] using jl) ?_ ?_) ⟨hobj,fun z hz=>(eq_isStrOf y t2 hi z (by simpa using hz)).at _ _,⟨.int j,H,I.tok _,⟨_,rfl⟩,k _ H _ G (.refl H) (.int _) g q⟩⟩
      · rw [at1 j (by simpa [len] using jl) y h1]
        exact beq_self_eq_true y
      · intro m hm lt
        have ml:m < ys.length:=by omega
        rw [at1 m hm ys[m] (List.getElem?_eq_getElem ml)]
        exact beq_eq_false_iff_ne.mpr fun z=>h2 m lt (by rw [List.getElem?_eq_getElem ml,z])
    · exact q.elim
  · exact q.elim
end
end L2
namespace L2
open PySem PySem.Spec PyProof.Rows PySem.W
section
variable {X:Cx}
def nH:xU:=fun x xs G R=>match x,xs with
  | .str j,[.str y,.str z]=>j.length+(j.length+1) * z.length≤16777216∧R (.str (Txt.replace j y z)) G
  | _,_=>False
theorem ap8 {o:Expr} {to:bL} {y z:Str} {j1 j2:Nat} {p1 p2 apos cpos:Pos} (hn:X.need=true) (hyz:(y == z)=false) (ho:bV X o to)
    (hbase:attributeBase o "replace" X.env (eval o X.env)=eval o X.env:=by rfl) (hline:(apos.endLine == cpos.line)=true:=by rfl) :
    bV X (.Call (.Attribute o "replace" apos) [.Constant (.str y) j1 p1,.Constant (.str z) j2 p2] [] cpos) (tM3 "str" nH to (aA (bA (.str y)) (aA (bA (.str z)) aK))):=by
  intro pins s σ H Q I h _tk
  obtain ⟨ρ,G,R,sr,g,q,kk⟩:=h
  refine wpAny_Call_method_late hbase rfl hline rfl (cD (ho pins s σ H (fun vx H1=>Ts H H1∧∃ x G1,RD X.K H1 x vx∧HR X.K H1 G1∧a1F "str" G1 x∧nH x [.str y,.str z] G1 R) I ⟨ρ,G,_,sr,g,q,fun v H1 x G1 t1 r1 g1 q1=>⟨t1,x,G1,r1,g1,q1⟩⟩) fun v s1 ⟨vx,H1,I1,r1,t1,x,G1,rx,g1,ty,q1⟩=>?_)
  obtain ⟨h1,h2⟩:=a7T I1 r1 (a83 g1 rx ty)
  refine ⟨"str", "str.replace",PySem.F.plainAttrs_str,PySem.F.slot_str_replace,PySem.F.type_str_replace,h1,h2,?_⟩
  have pos:0 < s1.toks:=(inferInstance:Tk X.need s1).pos hn
  cases rx with
  | str j =>
    obtain ⟨t,rfl⟩:=r1
    refine Calls.callWith_builtin rfl (Calls.evalArgs_plain ?_)
    refine Calls.spliced_cons (Calls.Constant_str (k:=j1) (pos:=p1) (Calls.spliced_cons (Calls.Constant_str (k:=j2) (pos:=p2) (Calls.spliced_nil ?_))))
    exact SC.replace (by show s1.toks≠0;omega) (by show s1.toks+1≠0;omega) (by show s1.toks≠s1.toks+1;omega) hyz q1.1 fun t' k=>⟨.str _,H1,(I1.tok _:Inv X pins σ H1 { s1 with toks:=k }),⟨_,rfl⟩,kk _ H1 _ G1 t1 (.str _) g1 q1.2⟩
  | _=>exact False.elim q1
def aj8 (ds:List D) (te:bL):bL:=fun ρ G R=>te ρ G fun y G1=>iH (.tup ds) [y] G1 R
theorem auY {x:Str} {ds:List D} {u:Value} {v:V} {e:Expr} {te:bL} {p apos cpos:Pos} (hg:Gl X x) (hm:X.mg x=some u) (rv:RelV v u) (rd:∀ H,RD X.K H (.tup ds) v) (he:bV X e te) (hs:starEach [e] X.env=[(false,eval e X.env)]) (hline:(apos.endLine == cpos.line)=true) (hdb:(x == ("__debug__" : Str))=false):bV X (.Call (.Attribute (.Name x p) "index" apos) [e] [] cpos) (aj8 ds te):=by
  intro pins s σ H Q I h _tk
  obtain ⟨ρ,G,R,sr,g,q,kk⟩:=h
  obtain ⟨a,o,rfl,hk,hc,hd⟩:∃ a o,v = .ref a∧X.K.lookup a=some o∧o.cls = .type "tuple" ∧ o.dict=none:=by
    cases rd (fun _=>none) with
    | @tup a xs _ sq r e0 =>
      rcases sq with (z | ⟨_,z⟩) | ⟨o,its,n,hk,hc,hd,_⟩
      · cases z
      · cases z
      · exact ⟨a,o,rfl,hk,hc,hd⟩
  obtain rfl:u=Value.ref a:=rv
  refine wpAny_Call_method_late rfl (by rw [hs];rfl) hline rfl (iZ I hg hm ?_ hdb)
  refine ⟨"tuple", "tuple.index",PySem.F.plainAttrs_tuple,PySem.F.slot_tuple_index,PySem.F.type_tuple_index,⟨o,I.yP a o hk,hc⟩,fun b e=>by cases e;exact ⟨o,I.yP _ o hk,hd⟩,?_⟩
  have hA:=o8 (es:=[]) he a5Y (by rw [hs];rfl) cpos pins s σ H (fun vs H2=>Ts H H2∧∃ xs G2,bF X.K H2 xs vs∧HR X.K H2 G2∧iH (.tup ds) xs G2 R) I ⟨ρ,G,fun xs G2=>iH (.tup ds) xs G2 R,sr,g,q,fun vs H2 xs G2 t2 r2 g2 q2=>⟨t2,xs,G2,r2,g2,q2⟩⟩
  rw [hs] at hA ⊢
  refine Calls.callWith_builtin rfl (Calls.evalArgs_plain ?_)
  exact cD hA fun us s2 ⟨vs,H2,I2,r2,t2,xs,G2,rs,g2,q2⟩=>aeV pins s2 σ H2 (.tup ds) xs (.ref a) vs (.ref a) us G2 R Q I2 (rd H2) rs rfl r2 g2 q2 fun v H' d G' t3=>kk v H' d G' (t2.trans t3)
def kvS:List Str→List D→List (DK×D)→List (DK×D)
  | k :: ks,d :: ds,kvs=>kvS ks ds (zQ kvs (.inl (.inr k)) d)
  | _,_,kvs=>kvs
def VS:List Str→List V→List (Value×Value)→Prop
  | [],[],[]=>True
  | k :: ks,w :: ws,u :: us=>(∃ t,u.1 = .str k t)∧RelV w u.2∧VS ks ws us
  | _,_,_=>False
def PDs (X:Cx) (pos:Pos) (keys:List (Option Expr)) (values:List Expr) (ks:List Str) (t:lO):Prop :=
  ∀ (pins:List (Addr×Obj)) (s:Shared) (σ:St) (H:Hp) (Q:List V→Hp→Prop),Inv X pins σ H s→upA X.K t σ H Q→[Tk X.need s] →
    wpAny (model X.prog X.w) X.A (evalPairs (pairTrees keys values X.env pos)) (fun us s'=>∃ ws H',Inv X pins σ H' s'∧VS ks ws us∧Q ws H') X.xe s
theorem aj9 {pos:Pos}:PDs X pos [] [] [] aK:=fun pins s σ H Q I h=>by
  obtain ⟨ρ,G,R,sr,g,q,kk⟩:=h
  exact pairTrees_nil_walk ⟨[],H,I,trivial,kk [] H [] G (.refl H) .nil g q⟩
theorem aeX {pos p1:Pos} {j1:Nat} {k:Str} {v:Expr} {keys:List (Option Expr)} {values:List Expr} {ks:List Str} {tv:bL} {t:lO} (hv:bV X v tv) (hr:PDs X pos keys values ks t) :
    PDs X pos (some (.Constant (.str k) j1 p1) :: keys) (v :: values) (k :: ks) (aA tv t):=fun pins s σ H Q I h=>by
  obtain ⟨ρ,G,R,sr,g,q,kk⟩:=h
  refine pairTrees_cons_walk (Calls.Constant_str (k:=j1) (pos:=p1) ?_)
  refine cD (hv pins _ σ H (fun vv H1=>Ts H H1∧∃ d G1,RD X.K H1 d vv∧HR X.K H1 G1∧t ρ G1 fun ds G2=>R (d :: ds) G2) (I.tok _) ⟨ρ,G,_,sr,g,q,fun vv H1 d G1 t1 r1 g1 q1=>⟨t1,d,G1,r1,g1,q1⟩⟩) fun uv s2 ⟨vv,H1,I1,rv,t1,d,G1,rd,g1,q1⟩=>?_
  exact cD (hr pins s2 σ H1 (fun ws H2=>Ts H1 H2∧∃ ds G2,bF X.K H2 ds ws∧HR X.K H2 G2∧R (d :: ds) G2) I1 ⟨ρ,G1,_,sr.mono t1,g1,q1,fun ws H2 ds G2 t2 r2 g2 q2=>⟨t2,ds,G2,r2,g2,q2⟩⟩) fun us s3 ⟨ws,H2,I2,vs,t2,ds,G2,rds,g2,q2⟩=>⟨vv :: ws,H2,I2,⟨⟨_,rfl⟩,rv,vs⟩,kk (vv :: ws) H2 (d :: ds) G2 (t1.trans t2) (.cons (rd.mono t2) rds) g2 q2⟩
theorem aeY {G:Gp} {p:Addr} {o:GO} (h:G p=some o):aL G p o=G:=funext fun a=>by
  by_cases c:a=p
  · subst c;rw [aF,h]
  · rw [aP c]
theorem zW {G:Gp} {p:Addr} {o o':GO}:aL (aL G p o) p o'=aL G p o':=funext fun a=>by
  by_cases c:a=p
  · subst c;rw [aF,aF]
  · rw [aP c,aP c,aP c]
theorem aa4 {A:Around} {E:Value→Shared→Prop} {p:Addr} {pins:List (Addr×Obj)} {σ:St} {Q:Shared→Prop} (hu:A.units < cLine):∀ (ks:List Str) (ds:List D) (ws:List V) (us:List (Value×Value)) (kvs:List (DK×D)) (H:Hp) (G:Gp) (s:Shared),VS ks ws us→bF X.K H ds ws→Inv X pins σ H s→HR X.K H G→G p=some (.iI false kvs)→kvs.length+ks.length < sizeLine →
    (∀ H' s',Inv X pins σ H' s'→Ts H H'→HR X.K H' (aL G p (.iI false (kvS ks ds kvs)))→Q s')→wpAny (model X.prog X.w) A (storeAll p us) (fun _ s'=>Q s') E s
  | [],ds,ws,us,kvs,H,G,s,v,r,I,g,hG,hl,k=>by
    cases ws with
    | cons _ _=>exact v.elim
    | nil =>
    cases us with
    | cons _ _=>exact v.elim
    | nil =>
      unfold storeAll
      rw [List.forIn_nil]
      refine wpAny_pure (k H s I (.refl H) ?_)
      unfold kvS
      rw [aeY hG]
      exact g
  | key :: ks,ds,ws,us,kvs,H,G,s,v,r,I,g,hG,hl,k=>by
    cases ws with
    | nil=>exact v.elim
    | cons w ws =>
    cases us with
    | nil=>exact v.elim
    | cons u us =>
      obtain ⟨⟨t,e⟩,rv,v⟩:=v
      obtain ⟨u1,u2⟩:=u
      obtain rfl:u1 = .str key t:=e
      cases r with
      | @cons d _ ds _ rd r =>
      have q:nF (.ref p) (.str key) G fun a t' kvs' k'=>kvs'=kvs∧k' = .inl (.inr key):=by
        unfold nF
        dsimp only
        rw [hG]
        exact ⟨rfl,rfl,rfl⟩
      obtain ⟨a,kvs',kd,ea,_,e1,_,⟨rfl,rfl⟩,dd⟩:=jV (.ref p) (.str key) g q
      cases ea
      have hl2:kvs'.length+(ks.length+1) < sizeLine:=hl
      obtain ⟨H4,pp,tt,g4⟩:=dd.put g rd (by omega)
      have e0:storeAll p ((Value.str key t,u2) :: us)=(do dictSet p (Value.str key t) u2;storeAll p us):=by
        unfold storeAll
        rw [List.forIn_cons]
        simp only [bind_assoc,pure_bind]
      rw [e0]
      refine wpAny_bind (abW hu I pp ⟨t,rfl⟩ rv fun s3 I3=>?_)
      have lp:(zQ kvs' (.inl (.inr key)) d).length≤kvs'.length+1:=by
        unfold zQ
        split
        · rw [List.length_map];omega
        · rw [List.length_append];exact Nat.le_refl _
      refine aa4 hu ks ds ws us _ H4 _ s3 v (r.mono tt) I3 g4 aF (by omega) fun H' s' I' t' g'=>k H' s' I' (tt.trans t') ?_
      rw [zW] at g'
      exact g'
def a4L (ks:List Str) (t:lO):bL:=fun ρ G R=>∀ p,G p=none→t ρ (aL G p (.iI false [])) fun ds G2=>G2 p=some (.iI false [])∧R (.ref p) (aL G2 p (.iI false (kvS ks ds [])))
theorem ajA {keys:List (Option Expr)} {values:List Expr} {ks:List Str} {t:lO} {pos:Pos} (hu:X.A.units+64 < cLine) (hall:keys.all (·.isSome)=true) (hl:keys.length=values.length) (h0:keys≠[]) (h15:keys.length≤15) (hks:ks.length≤15) (hd:PDs X pos keys values ks t):bV X (.Dict keys values pos) (a4L ks t):=by
  intro pins s σ H Q I h _tk
  obtain ⟨ρ,G,R,sr,g,q,kk⟩:=h
  have big:15 < sizeLine:=by decide
  refine wpAny_Dict_any hall hl h0 h15 ?_
  have fr:H s.heap.objs.size=none:=I.hok.fresh (Nat.le_refl _)
  have sn:Same H (upd H s.heap.objs.size (.dK [])):=aW fr
  have J:=I.laid (a:=s.heap.objs.size) (o := .dK []) (t':=s.toks) (fun _ _ q=>Heap.get?_push_of_some _ q) (Nat.le_refl _) (a5R s.heap I.big)
  have g0:HR X.K (upd H s.heap.objs.size (.dK [])) (aL G s.heap.objs.size (.iI false [])):=g.put (u := .iI false []) fr (.inl ⟨rfl,[],aD,.nil⟩)
  have t0:Ts H (upd H s.heap.objs.size (.dK [])) := .same sn
  refine cD (hd pins _ σ _ (fun ws H1=>Ts (upd H s.heap.objs.size (.dK [])) H1∧∃ ds G1,bF X.K H1 ds ws∧HR X.K H1 G1∧G1 s.heap.objs.size=some (.iI false [])∧R (.ref s.heap.objs.size) (aL G1 s.heap.objs.size (.iI false (kvS ks ds [])))) J ⟨ρ,_,_,sr.mono t0,g0,q _ (gC g fr (qP J)),fun ws H1 ds G1 t1 r1 g1 q1=>⟨t1,ds,G1,r1,g1,q1⟩⟩) fun us s1 ⟨ws,H1,I1,v,t1,ds,G1,r1,g1,e1,q1⟩=>?_
  exact aa4 (by omega) ks ds ws us [] H1 G1 s1 v r1 I1 g1 e1 (by show 0+ks.length < sizeLine;omega) fun H' s' I' t' g'=>⟨.ref _,H',I',rfl,kk _ H' _ _ ((t0.trans t1).trans t') (.ref _) g' q1⟩
end
end L2
namespace L2
open PySem PySem.Spec PyProof.Rows PySem.W
abbrev Cx.ask (X:Cx):Cx:={ X with need:=true }
theorem Inv.ask {X:Cx} {pins:List (Addr×Obj)} {σ:St} {H:Hp} {s:Shared} (I:Inv X pins σ H s):Inv X.ask pins σ H s :=
  let o:=I.ok
  ⟨⟨o.mod,o.kind,o.glob,o.blt,o.above,o.inj,o.has,o.cab,o.hd,o.frames,o.stk,o.exf,o.bs,o.bsz,o.a5M,o.a7I,o.mY,o.frf⟩,I.os,I.bare,I.base,I.loc,I.cell,I.free,I.jO,I.pin,I.hok,I.len,I.hnd,I.tup⟩
theorem Inv.alF {X:Cx} {pins:List (Addr×Obj)} {σ:St} {H:Hp} {s:Shared} (I:Inv X.ask pins σ H s):Inv X pins σ H s :=
  let o:=I.ok
  ⟨⟨o.mod,o.kind,o.glob,o.blt,o.above,o.inj,o.has,o.cab,o.hd,o.frames,o.stk,o.exf,o.bs,o.bsz,o.a5M,o.a7I,o.mY,o.frf⟩,I.os,I.bare,I.base,I.loc,I.cell,I.free,I.jO,I.pin,I.hok,I.len,I.hnd,I.tup⟩
theorem Cat.ask {X:Cx} {EX:aQ→aY} (h:Cat X EX):Cat X.ask EX:=⟨fun pins σ H s ρ e s' I sr c=>h.a9O pins σ H s ρ e s' I.alF sr c⟩
theorem Thr.ask {X:Cx} {EX:aQ→aY} (h:Thr X EX):Thr X.ask EX:=⟨fun pins σ H s ρ C e us h' I sr m c=>h.made pins σ H s ρ C e us h' I.alF sr m c⟩
structure a6M (qt:Bool) (P:Program) (w:World) (K:PySem.W.Frag) (mg:Str→Option Value) (base:Heap) (CX:xX) (k:Nat) (f:Addr) (fd:FuncData) (ps:List Str) (sp:Sp):Prop where
  len:∀ vs H Q E,sp vs H Q E→vs.length=ps.length
  run:∀ (A:Around) (outer:List Env) (s:Shared) (H:Hp) (args:Args) (us:List Value) (vs:List V) (Q:VK) (E:XK),bQ qt k A→qH P w K mg base A outer s H→BindsTo s fd args (ps.zip us)→Vals vs us→sp vs H Q E→0 < s.toks →
    codeAny (model P w) A (.call (.ref f) args) (CR CX outer P w H s Q E) s
theorem a6M.mono {qt:Bool} {P:Program} {w:World} {K:PySem.W.Frag} {mg:Str→Option Value} {base:Heap} {CX:xX} {j k:Nat} {f:Addr} {fd:FuncData} {ps:List Str} {sp:Sp} (F:a6M qt P w K mg base CX j f fd ps sp) (h:j≤k):a6M qt P w K mg base CX k f fd ps sp :=
  ⟨F.len,fun A outer s H args us vs Q E hr=>F.run A outer s H args us vs Q E (hr.mono h)⟩
section
variable {X:Cx} {k:Nat} {f:Addr} {fd:FuncData} {ps:List Str} {sp:jT} {EX:aQ→aY} {x:Str} {p pos:Pos} {e:Expr} {es:List Expr} {t:lO}
end
end L2
namespace L2
open PySem PySem.Spec PyProof.Rows PySem.W
section
variable {M:Model} {A:Around} {E:Value→Shared→Prop} {s₀ s:Shared} {env:Env}
theorem a2V (f:Str×Value→PUnit→Sem (ForInStep PUnit)) (hf:∀ n v u,f (n,v) u=(do storeName env n v;pure (.yield ⟨⟩))) (hk:env.scope.kind = .function) :
    ∀ (binds:List (Str×Value)) (m:Str→Option Value) (s:Shared) (Q:PUnit→Shared→Prop),InX s₀ env.locals m env.scope.names s →
      (∀ x∈binds,env.kindOf x.1=some .local)→(binds≠[]∨0 < s.toks)→(∀ s',InX s₀ env.locals (bindL env.kindOf binds m) env.scope.names s'→0 < s'.toks→Q ⟨⟩ s')→wpAny M A (forIn binds ⟨⟩ f) Q E s
  | [],m,s,Q,x,_,ht,h=>by rw [List.forIn_nil];exact wpAny_pure (h s x (ht.elim (fun z=>absurd rfl z) id))
  | (n,v) :: r,m,s,Q,x,hl,ht,h=>by
    rw [List.forIn_cons,hf]
    have l:=hl (n,v) List.mem_cons_self
    refine wpAny_bind (wpAny_bind (wpAny_storeName_local l x.call.ns (fun h' hn' hs'=>wpAny_pure (a2V f hf hk r _ _ Q ⟨⟨?_,hn',fun b o e=>?_,x.call.fresh⟩,fun k c hc=>?_,x.apart⟩ (fun y hy=>hl y (List.mem_cons_of_mem _ hy)) (.inr (Nat.succ_pos _)) fun s'' x''=>h s'' ?_)) (by rw [hk];rfl)))
    · obtain ⟨h₁,tk,rfl⟩:=x.call.same
      exact ⟨h',_,rfl⟩
    · exact hs'.extBut b o (Nat.ne_of_lt (Nat.lt_of_lt_of_le (Heap.lt_size e) x.call.fresh)) (x.call.keep b o e)
    · exact ⟨(x.cell k c hc).1.sameBut hs' (Nat.ne_of_gt (x.cell k c hc).2),(x.cell k c hc).2⟩
    · unfold bindL;rw [if_pos l];exact x''
theorem ajB {scope:Scope} {binds:List (Str×Value)} {qual:Str} {f:Addr} {code:Value} {Q:Env→Shared→Prop} (hk:scope.kind = .function) (hloc:∀ x∈binds,scope.names.lookup x.1=some .local) (hne:binds≠[])
    (hQ:∀ s',InX s s.heap.objs.size (bindL (d9 qual scope s.heap.objs.size f code []).kindOf binds fun _=>none) scope.names s'→0 < s'.toks→Q (d9 qual scope s.heap.objs.size f code []) s') :
    wpAny M A (newFunctionEnv scope mainGlobals [] binds (qual ++ ".<locals>.") (some f) code none builtinsNs) Q E s:=by
  simp only [newFunctionEnv,Option.isSome_none,Bool.false_eq_true,if_false]
  refine wpAny_bind (wpAny_alloc ?_)
  refine wpAny_bind (wpAny_layCells _ (fun name kind cells=>by cases hkc:kind == NameKind.cell <;> simp [hkc]) _ _ _ _ ?_)
  have ok:=cellsFrom_ok scope.names (s.heap.push { cls := .type "frame",data := .dict #[] }) (s.heap.objs.size+1) [] ⟨fun _ _ hm=>(nomatch hm),List.Pairwise.nil⟩ (by rw [Heap.size_push];exact Nat.le_refl _)
  rw [Heap.size_push] at ok
  rw [show ({ s with heap:=s.heap.push { cls := .type "frame",data := .dict #[] } }:Shared).heap.objs.size=s.heap.objs.size+1 from Heap.size_push ..]
  refine wpAny_bind (a2V (s₀:=s) (env:=d9 qual scope s.heap.objs.size f code []) _ (fun _ _ _=>rfl) hk binds (fun _=>none) _ _
    ⟨⟨⟨_,_,rfl⟩,(Heap.Ns.new s.heap (.type "frame")).keeps (pushCells_keeps _ _),fun b o e=>pushCells_keeps _ _ b o (Heap.get?_push_of_some _ e),Nat.le_refl _⟩,fun n c hm=>ok.empty n c hm,ok.apart⟩ hloc (.inl hne) fun s' x ht=>wpAny_pure (hQ s' x ht))
end
theorem tQ:∀ (names:List (Str×NameKind)) (n:Nat),names.all (fun y=>y.2 != .cell)=true→cellsFrom n names []=[]
  | [],_,_=>rfl
  | (x,k) :: r,n,h=>by
    rw [List.all_cons,Bool.and_eq_true] at h
    unfold cellsFrom
    have h1:(k == NameKind.cell)=false:=by simpa using h.1
    rw [h1]
    exact tQ r n h.2
theorem ap9 {qt:Bool} {CX:xX} {P:Program} {w:World} {K:PySem.W.Frag} {mg:Str→Option Value} {base:Heap} {k:Nat} {f:Addr} {name qual:Str} {params:Arguments} {body:List Stmt} {scope:Scope} {dV kV doc pm cdv ct oc:Value} {an od:Option Addr} {osl:Array (Option Value)} {N ps:List Str} {sp:Sp}
    (lk:K.lookup f=some ⟨oc,od,.func (PySem.W.fnOf name qual params body scope dV kV doc pm an cdv ct),osl⟩) (hcd:PySem.W.codeIn K cdv qual=true) (S:bD N ps scope) (hnc:scope.names.all (fun y=>y.2 != .cell)=true) (hne:ps≠[]) (len:∀ vs H Q E,sp vs H Q E→vs.length=ps.length)
    (hbody:∀ (A:Around) (outer:List Env) (s:Shared) (H:Hp) (vs:List V) (Q:VK) (E:XK),bQ qt k (A.deeper (envOfC qual scope s.heap.objs.size f cdv))→sp vs H Q E →
      ∃ t,xQ (eE qt CX P w K mg base N qual scope f cdv A outer s H E).ask body t∧t { nx:=fun _ H'=>Q .non H',rt:=Q } (start N vs) H) :
    bY qt P w K mg base CX (k+1) f (PySem.W.fnOf name qual params body scope dV kV doc pm an cdv ct) ps sp:=by
  refine ⟨len,fun A outer s H args us vs Q E hr e0 hb r hsp=>?_⟩
  have hl:=len _ _ _ _ hsp
  have KX:K.In s.heap:=e0.mod.kin.keeps fun b o e=>(e0.bs b o e).1
  have lim:s.heap.NoLimit:=e0.mod.nolimit.keeps fun b o e=>(e0.bs b o e).1
  have ecl:∀ n,cellsFrom n scope.names []=[]:=fun n=>tQ _ _ hnc
  have hloc:∀ y∈ps.zip us,scope.names.lookup y.1=some .local:=fun ⟨n,v⟩ hy=>by
    rcases S.par n (List.of_mem_zip hy).1 with q | q
    · exact q
    · obtain ⟨c,e⟩:=qI (n:=0) q
      rw [ecl] at e;cases e
  have az5:ps.zip us≠[]:=fun z=>by
    have:(ps.zip us).length=0:=by rw [z];rfl
    rw [List.length_zip,← r.length,hl] at this
    simp at this
    exact hne this
  refine codeAny_call_function hr.depth (KX _ _ lk) rfl S.co S.gen rfl (PySem.W.codeRec_of KX hcd) (hb _ _ _ _ ?_)
  refine ajB S.kind hloc az5 fun s1 y tp=>?_
  refine ⟨lim.keeps y.call.keep,codeAny_func ?_⟩
  obtain ⟨t,ht,hq⟩:=hbody A outer s H vs Q E (hr.deeper _) hsp
  have x:InCallC s s.heap.objs.size (bindL (envOfC qual scope s.heap.objs.size f cdv).kindOf (ps.zip us) fun _=>none) (cellsFrom (s.heap.objs.size+1) scope.names []) (bindC (envOfC qual scope s.heap.objs.size f cdv).kindOf (ps.zip us) fun _=>none) s1:=by
    rw [ecl]
    exact ⟨y.call,(fun n c z=>nomatch z),.nil,fun n c z=>nomatch z⟩
  have I:Inv (eE qt CX P w K mg base N qual scope f cdv A outer s H E) [] (start N vs) H s1:=wB S hr.hd e0 hl r x
  refine wpAny_mono (@ht [] s1 (start N vs) H _ I.ask hq ⟨fun _=>tp⟩) (fun fl s' hs=>?_) fun e s' hs=>hs
  have fin:∀ {σ':St} {H':Hp} {v:V} {u:Value},Inv (eE qt CX P w K mg base N qual scope f cdv A outer s H E).ask [] σ' H' s'→RelV v u→Q v H'→CE outer P w H s Q u s':=fun {σ' H' v u} J rv q=>⟨v,H',J.os,J.bare,J.base,J.hok,rv,q⟩
  cases fl with
  | ret u =>
    obtain ⟨v,σ',H',J,rv,q⟩:=hs
    exact fin J rv q
  | next =>
    obtain ⟨σ',H',J,q⟩:=hs
    exact fin (v:=V.non) (u:=Value.none) J rfl q
  | brk =>
    obtain ⟨_,_,_,q⟩:=hs
    exact False.elim q
  | cont =>
    obtain ⟨_,_,_,q⟩:=hs
    exact False.elim q
theorem ajC {qt:Bool} {P:Program} {w:World} {K:Fg} {mg:Str→Option Value} {base:Heap} {x qual:Str} {st:Stmt} {f:Addr} {fd:FuncData} {N ps:List Str} {k:Nat} {tb:aY→bK} (F:uU K x qual st f fd) (S:bD N ps (aC st)) (hnc:(aC st).names.all (fun y=>y.2 != .cell)=true) (hne:ps≠[])
    (hbody:∀ (cdv:Value) (A:Around) (outer:List Env) (s:Shared) (H:Hp) (E:XK) (EX:aY),bQ qt k (A.deeper (envOfC qual (aC st) s.heap.objs.size f cdv))→UpX K EX E →
      uX (uY qt P w K mg base N qual (aC st) f cdv A outer s H E).ask (bI st) (tb EX)):bY qt P w K mg base (iJ P w) (k+1) f fd ps (cO K (aiB N.length ps.length tb)):=by
  obtain ⟨oc,od,dV,kV,doc,pm,an,cdv,ct,osl,rfl,lk,hcd⟩:=F.ex
  refine ap9 lk hcd S hnc hne (fun vs H Q E h=>?_) fun A outer s H vs Q E hr hsp=>?_
  · obtain ⟨ds,G,R,EX,r,g,⟨hl,q⟩,_⟩:=h
    rw [← r.length,hl]
  · obtain ⟨ds,G,R,EX,r,g,⟨hl,q⟩,kk,hE⟩:=hsp
    refine ⟨_,hbody cdv A outer s H E EX hr hE,cT N.length ds,G,_,?_,g,q,⟨fun ρ G' σ' H' s1 g1 q1=>kk .non H' .non G' .non g1 q1,fun d G' v H' r1 g1 q1=>kk v H' d G' r1 g1 q1,fun _ _ _ _ _ _ z=>z.elim,fun _ _ _ _ _ _ z=>z.elim⟩⟩
    unfold cT start
    rw [r.length]
    exact SR.entry r
end L2
namespace L2
open PySem PySem.Spec PyProof.Rows PySem.W
abbrev K3:=List Int×List Int×Int
def k3D (k:K3):D := .tup [.tup (k.1.map D.int),.tup (k.2.1.map D.int),.int k.2.2]
def ltK (a b:K3):Bool:=if a.1=b.1 then (if a.2.1=b.2.1 then decide (a.2.2 < b.2.2) else HT.lexLt a.2.1 b.2.1) else HT.lexLt a.1 b.1
section
variable {X:Cx} {pins:List (Addr×Obj)} {σ:St} {H:Hp} {s:Shared}
theorem aeZ (I:Inv X pins σ H s) {k:K3} {v:V} {u:Value} (r:RD X.K H (k3D k) v) (rv:RelV v u):∃ a o n b c t,u = .ref a∧s.heap.get? a=some o∧o.cls=Value.type "tuple" ∧ o.data = .seq #[.ref b,.ref c,.int k.2.2 t] n∧RD X.K H (.tup (k.1.map D.int)) (.ref b)∧RD X.K H (.tup (k.2.1.map D.int)) (.ref c):=by
  unfold k3D at r
  cases r with
  | @tup a zs _ hq rz _ =>
    obtain rfl:u=Value.ref a:=rv
    obtain ⟨its,vi,⟨o,h1,h2,n,h3⟩,_⟩:=I.tuple hq
    cases rz with
    | cons ra rb =>
    cases rb with
    | cons rb rc =>
    cases rc with
    | cons rc rn =>
    cases rn
    cases rc
    cases vi with
    | cons va vb =>
    cases vb with
    | cons vb vc =>
    cases vc with
    | cons vc vn =>
    cases vn
    obtain ⟨t,rfl⟩:=vc
    cases ra with
    | @tup b ys _ hb rbs eb =>
    cases rb with
    | @tup c ws _ hc rcs ec =>
    cases va;cases vb
    exact ⟨a,o,n,b,c,t,rfl,h1,h2,h3,.tup hb rbs eb,.tup hc rcs ec⟩
theorem yI (I:Inv X pins σ H s) {ns:List Int} {b:Addr} (r:RD X.K H (.tup (ns.map D.int)) (.ref b)):∃ its,IsTup s.heap b its∧IntsAre its.toList ns:=by
  cases r with
  | @tup _ ys _ hb rbs eb =>
    obtain ⟨its,vi,p,_⟩:=I.tuple hb
    have e:ys=ns.map V.int:=a2S rbs
    subst e
    exact ⟨its.toArray,p,by simpa using intsAre_of vi⟩
theorem a2W (I:Inv X pins σ H s):∀ {ks:List K3} {xs:List V} {us:List Value},bF X.K H (ks.map k3D) xs→Vals xs us→∃ fs:List Value,KatTups s.heap us fs∧fs.length=ks.length∧∀ v∈fs,∃ b o,v = .ref b∧s.heap.get? b=some o∧o.cls=Value.type "tuple"
  | [],_,_,.nil,.nil=>⟨[],trivial,rfl,fun v h=>by cases h⟩
  | k :: ks,_,_,.cons r rs,.cons v vs=>by
    obtain ⟨fs,k1,k2,k3⟩:=a2W I rs vs
    obtain ⟨a,o,n,b,c,t,rfl,h1,h2,h3,rb,rc⟩:=aeZ I r v
    refine ⟨.ref b :: fs,KatTups.cons h1 h2 h3 rfl k1,by simp [k2],fun u hu=>?_⟩
    rcases List.mem_cons.mp hu with rfl | hu
    · cases rb with
      | @tup _ ys _ hb rbs eb =>
        obtain ⟨its,vi,⟨o2,q1,q2,_⟩,_⟩:=I.tuple hb
        exact ⟨b,o2,rfl,q1,q2⟩
    · exact k3 u hu
theorem apA (I:Inv X pins σ H s) {A:Around} (hu:A.units+32 < cLine) {ks:List K3} {xs:List V} {us:List Value} (r:bF X.K H (ks.map k3D) xs) (rv:Vals xs us) (l2:2≤us.length) {kf:Nat→Int} (hkf:∀ i j a b,ks[i]?=some a→ks[j]?=some b→ltK a b=decide (kf i < kf j)) :
    ∃ κ,(∀ Q:SortKind→Shared→Prop,Q κ s→wpAny (model X.prog X.w) A (keyKind' us.toArray) Q (fun _ _=>False) s)∧∀ i j (C:Bool→Shared→Prop),i < us.length→j < us.length→C (decide (kf i < kf j)) s→kas_ask X.prog X.w A κ us i j C s:=by
  obtain ⟨fs,k1,k2,k3⟩:=a2W I r rv
  have lx:xs.length=ks.length:=by rw [← r.length,List.length_map]
  have len:us.length=ks.length:=by rw [← rv.length,lx]
  refine ⟨tuples' (Value.type "tuple" != Value.type "tuple"),fun Q hQ=>kat_kind k1 (by omega) (fun v hv=>?_) (by simp) hQ,fun i j C hi hj hC=>?_⟩
  · obtain ⟨b,o,rfl,q1,q2⟩:=k3 v hv
    rw [← q2]
    exact (Looks.ld q1).andThen .now
  · have get:∀ i,i < us.length→∃ k v,ks[i]?=some k∧RD X.K H (k3D k) v∧RelV v (us.getD i Value.none):=fun i hi=>by
      obtain ⟨v,e1,rd⟩:=r.get (i:=i) (d:=k3D (ks[i]'(by omega))) (by simp [List.getElem?_map,List.getElem?_eq_getElem (show i < ks.length by omega)])
      obtain ⟨u,e2,ru⟩:=rv.get e1
      exact ⟨_,v,List.getElem?_eq_getElem (by omega),rd,by simpa [List.getD,e2] using ru⟩
    obtain ⟨ka,va,ea,ra,ua⟩:=get i hi
    obtain ⟨kb,vb,eb,rb,ub⟩:=get j hj
    obtain ⟨a,o,n,b,c,t,ga,h1,h2,h3,rb1,rc1⟩:=aeZ I ra ua
    obtain ⟨a',o',n',b',c',t',gb,g1,g2,g3,rb2,rc2⟩:=aeZ I rb ub
    rw [← hkf i j ka kb ea eb] at hC
    unfold kas_ask
    rw [ga,gb]
    rw [show (Value.type "tuple" != Value.type "tuple")=false by simp]
    obtain ⟨i1,p1,q1⟩:=yI I rb1
    obtain ⟨i2,p2,q2⟩:=yI I rb2
    obtain ⟨i3,p3,q3⟩:=yI I rc1
    obtain ⟨i4,p4,q4⟩:=yI I rc2
    refine kat_lt h1 h3 g1 g3 ?_
    show KatLex X.prog X.w A false _ C [(.ref b,.ref b'),(.ref c,.ref c'),(.int ka.2.2 t,.int kb.2.2 t')] 0 s
    unfold ltK at hC
    have E1:=wK I 8 A _ _ _ _ (.ref b) (.ref b') (by omega) (sH 7 ka.1) (sH 7 kb.1) rb1 rb2 rfl rfl
    have E2:=wK I 8 A _ _ _ _ (.ref c) (.ref c') (by omega) (sH 7 ka.2.1) (sH 7 kb.2.1) rc1 rc2 rfl rfl
    rw [eqP,a2T] at E1 E2
    refine kat_cons (E1 _ _ _ _ (kat_go (fun e=>kat_yes (kat_cons (E2 _ _ _ _ (kat_go (fun e2=>kat_yes (kat_cons (wpAny_eqBool_int (kat_go (fun e3=>kat_yes (kat_nil ?_)) fun e3=>kat_no (kat_one _ _ ?_))))) fun e2=>kat_no (kat_one _ _ (HT.z9 p3 p4 q3 q4 (by omega) ?_)))))) fun e=>kat_no (kat_one _ _ (HT.z9 p1 p2 q1 q2 (by omega) ?_))))
    · rw [if_pos (of_decide_eq_true e),if_pos (of_decide_eq_true e2)] at hC
      have:ka.2.2=kb.2.2:=by simpa using e3
      rw [this] at hC
      simpa using hC
    · rw [if_pos (of_decide_eq_true e),if_pos (of_decide_eq_true e2)] at hC
      exact HT.a5S _ _ _ _ _ _ _ _ _ _ hC
    · rw [if_pos (of_decide_eq_true e),if_neg (of_decide_eq_false e2)] at hC
      exact hC
    · rw [if_neg (of_decide_eq_false e)] at hC
      exact hC
end
end L2
namespace L2
open PySem PySem.Spec PyProof.Rows PySem.W
structure tH where
  qual:Str
  params:Arguments
  body:Expr
  scope:Scope
  x:Str
  pos:Pos
def tR (qt:Bool) (P:Program) (w:World) (K:Fg) (mg:Str→Option Value) (base:Heap) (k:Nat) (c:tH) (sp:jT):Prop :=
  ∀ (A:Around) (outer:List Env) (s:Shared) (H:Hp) (us:List Value) (vs:List V) (ds:List D) (d:D) (G:Gp) (R:dG) (E:XK) (f cc c':Addr) (pm ctv u:Value) (vv:V),bQ qt k A→qH P w K mg base A outer s H→HR K H G→H f=some (qD (kla_obj "<lambda>" c.qual c.params c.body c.scope [(c.x,cc)] pm c' ctv))→iC H c' c.qual →
    s.heap.IsCell cc (some u)→H cc=none→RelV vv u→RD K H d vv→Vals vs us→bF K H ds vs→sp (d :: ds) G R (fun _ _=>False) →
    codeAny (model P w) A (.call (.ref f) ⟨us,[]⟩) (CR (iJ P w) outer P w H s (fun v H'=>∃ d' G2,RD K H' d' v∧HR K H' G2∧R d' G2) E) s
def spL (n m:Nat) (te:bL):jT:=fun ds G R _=>ds.length=m∧te (cT n ds) G R
theorem apB {qt:Bool} {P:Program} {w:World} {K:Fg} {mg:Str→Option Value} {base:Heap} {k:Nat} {c:tH} {N ps:List Str} {te:bL} (S:ScX N ps c.x c.scope) (n8:∀ y∈c.scope.names,y.1=c.x→y.2 ≠ .cell)
    (hb:∀ (cl:List (Str×Addr)) (pm cdv ctv:Value) (us:List Value),us.length=ps.length→bindArgs (kla_fn "<lambda>" c.qual c.params c.body c.scope cl pm cdv ctv) ⟨us,[]⟩=pure (ps.zip us))
    (hbody:∀ (f c' cc:Addr) (A:Around) (outer:List Env) (s:Shared) (H:Hp),bQ qt k (A.deeper (d9 c.qual c.scope s.heap.objs.size f (.ref c') [(c.x,cc)])) →
      bV (cxX qt (iJ P w) P w K mg base N c.qual c.scope f (.ref c') c.x cc A outer s H (fun _ _ _=>False)) c.body te) :
    tR qt P w K mg base (k+1) c (spL N.length (ps.length+1) te):=by
  intro A outer s H us vs ds d G R E f cc c' pm ctv u vv hr e0 g hf rc hc hH rv rd rvs rds hsp
  obtain ⟨hl,hq⟩:=hsp
  have hl':vs.length=ps.length:=by rw [← rds.length];simpa using hl
  refine ai4 S n8 hr e0 hf rc hc hH rv (hb _ _ _ _ us (by rw [← rvs.length];exact hl')) rvs hl' (fun e s' z=>?_) fun hr2=>?_
  · obtain ⟨_,_,_,_,_,_,_,_,_,_,_,_,z⟩:=z
    exact z
  · refine ⟨_,hbody f c' cc A outer s H hr2,cT N.length (d :: ds),G,_,?_,g,hq,fun v H' d' G' _ r1 g1 q1=>⟨d',G',r1,g1,q1⟩⟩
    unfold cT start
    rw [show (d :: ds).length=(vv :: vs).length by simp [rds.length]]
    exact SR.entry (.cons rd rds)
section
variable {X:Cx} {pins:List (Addr×Obj)} {σ:St} {H:Hp} {s:Shared} {h':Heap}
theorem Inv.af0 {ch:List Addr} {a:Addr} {o:HO} {t':Nat} (I:Inv X pins σ H s) (k:∀ b u,b ∉ ch→s.heap.get? b=some u→h'.get? b=some u) (hc:∀ b∈ch,jP X pins H b) (ha:a∈ch) (new:cG X.prog X.w (upd H a o) h' a o):Inv X pins σ (upd H a o) { s with heap:=h',toks:=t' }:=by
  have nit:∀ b u,H b=some u→b ∉ ch:=fun b u e z=>by rw [(hc b z).1] at e;cases e
  have fr:H a=none:=(hc a ha).1
  have sn:Same H (upd H a o):=aW fr
  refine I.step (g':=s.gens) (d':=s.drawn) (ch:=ch) (fun b hb=>?_) (fun b o _ _ hn e _=>k b o hn e) (fun b o _ _ hn e _=>⟨o.slots,k b o hn e⟩) (fun b u hn e n=>by rw [aG (show b≠a from fun z=>hn (by rw [z];exact ha))];exact n) (fun b o hn e=>⟨o,k b o hn e⟩) (fun b xs e=>sn _ _ e) (fun b o u e=>sn _ _ e) (fun b ps e=>⟨#[],by rw [sn _ _ e];simp⟩) (fun m hm=>?_) (fun b u e=>?_) I.bare
  · obtain ⟨_,f1,_,f3,f4,f5⟩:=hc b hb
    exact ⟨f3,f1,f4,f5⟩
  · obtain ⟨o,es,ep,ho,r⟩:=hm
    exact ⟨o,es,ep,k _ o (fun z=>(hc _ z).2.1 rfl) ho,r⟩
  · by_cases hb:b=a
    · subst hb
      rw [aD] at e;cases e
      exact new
    · rw [aG hb] at e
      refine (I.hok b u e).stay (fun c v hcc q=>k c v ?_ q) (fun _ q=>sn _ _ q) fun _ _ q=>sn _ _ q
      rcases hcc with z | z
      · rw [z];exact nit b u e
      · exact nit c _ z
theorem jP.nfr {b:Addr} (I:Inv X pins σ H s) (h:jP X pins H b):b ∉ frs X.stack:=by
  rcases I.ok.stk with e | ⟨e,hf⟩
  · rw [e];exact h.2.2.1
  · rw [e]
    unfold frs
    rw [List.filterMap_cons,hf]
    intro z
    rcases List.mem_cons.mp z with z | z
    · exact h.2.1 z
    · exact h.2.2.1 z
theorem jP.un {b:Addr} {o:Obj} {H':Hp} {s':Shared} (h:jP X pins H b) (e:s.heap.get? b=some o) (u:Un (frs X.stack) [] H H' s.heap s'.heap):jP X pins H' b:=⟨u.free b o e h.1 (by simp),h.2⟩
def xH (X:Cx) (c:tH) (f c' cc:Addr) (H:Hp):Prop:=(∃ ctv,H f=some (qD (kla_obj "<lambda>" c.qual c.params c.body c.scope [(c.x,cc)] ((X.mg "__name__").getD .none) c' ctv)))∧iC H c' c.qual
theorem xH.un {c:tH} {f c' cc:Addr} {H':Hp} {fs ex:List Addr} {h1 h2:Heap} (l:xH X c f c' cc H) (u:Un fs ex H H' h1 h2):xH X c f c' cc H':=by
  obtain ⟨⟨ctv,e⟩,r⟩:=l
  exact ⟨⟨ctv,u.cQ _ _ _ e⟩,r.keep fun a o φ q=>u.cQ _ _ _ q⟩
variable {qt:Bool} {k ix:Nat} {c:tH} {sp:jT} {f c' cc:Addr} {vc:V} {dx:D}
theorem af2 (LO:tR qt X.prog X.w X.K X.mg X.base k c sp) (hr:bQ qt k X.A.in1.in1) (I:Inv X pins σ H s) {G:Gp} {R:dG} (g:HR X.K H G) (la:xH X c f c' cc H) (hcc:X.env.cells.lookup c.x=some cc) (hN:X.N[ix]?=some c.x) (hx:X.env.scope.names.lookup c.x=some .cell) (hv:σ[ix]?=some (some vc)) (rdc:RD X.K H dx vc) {u:Value} {v:V} {d:D} (ru:RelV v u) (rd:RD X.K H d v) (q:sp [dx,d] G R (fun _ _=>False)) :
    wpAny (model X.prog X.w) X.A.in1.in1 (call (.ref f) [u]) (fun ku s'=>∃ kv H' kd G',Inv X pins σ H' s'∧Un (frs X.stack) [] H H' s.heap s'.heap∧RelV kv ku∧RD X.K H' kd kv∧HR X.K H' G'∧R kd G') (fun _ _=>False) s:=by
  obtain ⟨⟨ctv,hf⟩,rc⟩:=la
  obtain ⟨m,hn,hl⟩:=I.loc
  obtain ⟨uc,ruc,lk⟩:=hl ix c.x vc hN hv (.inr (.inl hx))
  have hcell:s.heap.IsCell cc (some uc):=by
    rcases lk with ⟨kl,_⟩ | ⟨_,c0,e0,z⟩
    · have kl:X.env.scope.names.lookup c.x=some .local:=kl
      rw [hx] at kl;cases kl
    · rw [hcc] at e0;cases e0;exact z
  have e1:=I.env0
  refine wpAny_call (codeAny_mono (LO X.A.in1.in1 X.stack s H [u] [v] [d] dx G R (fun _ _ _=>False) f cc c' _ ctv uc vc hr ⟨e1.frames,e1.mod,e1.bs,e1.bsz,e1.mY,e1.frf,e1.hok,e1.bare,e1.hnd⟩ g hf rc hcell (I.jO _ _ hcc) ruc rdc (.cons ru .nil) (.cons rd .nil) q) fun r s' hq=>?_)
  cases r with
  | error e =>
    obtain ⟨_,_,_,_,_,_,_,_,_,_,_,_,z⟩:=hq
    exact z.elim
  | ok fl =>
    cases fl with
    | ret u =>
      obtain ⟨v,H',os,bare,un,hok,r,d',G2,r2,g2,q2⟩:=hq
      exact ⟨v,H',d',G2,I.call' (ch:=[]) os un hok bare (fun b z=>absurd z (by simp)),un,r,r2,g2,q2⟩
    | next=>exact False.elim hq
    | brk=>exact False.elim hq
    | cont=>exact False.elim hq
end
def u6 (sp:jT) (dx:D) (C:List D→Gp→Prop):List D→List D→Gp→Prop
  | [],ks,G=>C ks G
  | d :: ds,ks,G=>sp [dx,d] G (fun k G'=>u6 sp dx C ds (ks++[k]) G') (fun _ _=>False)
theorem Vals.snoc {v:V} {u:Value} (h:RelV v u):∀ {vs:List V} {us:List Value},Vals vs us→Vals (vs++[v]) (us++[u])
  | _,_,.nil => .cons h .nil
  | _,_,.cons a r => .cons a (Vals.snoc h r)
theorem bF.snoc {K:Fg} {H:Hp} {d:D} {v:V} (h:RD K H d v):∀ {ds:List D} {vs:List V},bF K H ds vs→bF K H (ds++[d]) (vs++[v])
  | _,_,.nil => .cons h .nil
  | _,_,.cons a r => .cons a (bF.snoc h r)
structure KSt (X:Cx) (pins:List (Addr×Obj)) (σ:St) (H1:Hp) (c:tH) (f c' cc kS a:Addr) (e1:Nat) (ks:List D) (C:Gp→Prop) (s:Shared):Prop where
  ex:∃ H G kvs kus e,Inv X pins σ H s∧HR X.K H G∧Ts H1 H∧xH X c f c' cc H∧jP X pins H kS∧jP X pins H a∧bF X.K H ks kvs∧Vals kvs kus∧s.heap.get? kS=some (seqObj "list" kus.toArray e)∧s.heap.get? a=some (seqObj "list" #[] e1)∧C G
theorem a2X {K:Fg} {H:Hp} {ds:List D} {xs:List V} (r:bF K H ds xs):∀ {l:List Nat},(∀ i∈l,i < ds.length)→bF K H (l.map fun i=>ds.getD i .non) (l.map fun i=>xs.getD i .non)
  | [],_ => .nil
  | i :: l,h=>by
    have hi:=h i (by simp)
    obtain ⟨v,e1,rd⟩:=r.get (List.getElem?_eq_getElem hi)
    have e2:xs.getD i .non=v:=by simp [List.getD,e1]
    have e3:ds.getD i .non=ds[i]:=by simp [List.getD,hi]
    refine .cons ?_ (a2X r fun j hj=>h j (by simp [hj]))
    show RD K H (ds.getD i .non) (xs.getD i .non)
    rw [e2,e3]
    exact rd
def zX (ds ks:List D) (G:Gp) (R:dG):Prop:=∃ (k3:List K3) (kf:Nat→Int),ks=k3.map k3D∧(∀ i j a b,k3[i]?=some a→k3[j]?=some b→ltK a b=decide (kf i < kf j))∧(∀ i j,i < ds.length→j < ds.length→kf i=kf j→i=j) ∧
  ∀ q:Array Nat,Pm ds.length q→Up kf q ds.length→∀ r,G r=none→R (.ref r) (aL G r (.lst (q.toList.map fun i=>ds.getD i .non)))
section
variable {X:Cx} {pins:List (Addr×Obj)} {σ:St} {H:Hp} {s:Shared} {qt:Bool} {k ix:Nat} {c:tH} {sp:jT} {f c' cc:Addr} {vc:V} {dx:D}
theorem a8E (LO:tR qt X.prog X.w X.K X.mg X.base k c sp) (hr:bQ qt k X.A.in1.in1) (hu:X.A.units+64 < cLine) (I:Inv X pins σ H s) {G:Gp} (g:HR X.K H G) (la:xH X c f c' cc H) (hcc:X.env.cells.lookup c.x=some cc) (hN:X.N[ix]?=some c.x) (hx:X.env.scope.names.lookup c.x=some .cell) (hv:σ[ix]?=some (some vc)) (rdc:RD X.K H dx vc)
    {us:List Value} {xs:List V} {ds:List D} (rd:bF X.K H ds xs) (rv:Vals xs us) {a:Addr} {n:Nat} (ho:s.heap.get? a=some (seqObj "list" us.toArray n)) (fa:jP X pins H a) (h64:ds.length < 64) {R:dG} {Q:VK} (hk:u6 sp dx (fun ks G2=>zX ds ks G2 R) ds [] G)
    (kk:∀ v H' d G',Ts H H'→RD X.K H' d v→HR X.K H' G'→R d G'→Q v H') {P:PySem.Fin→Shared→Prop} {E:Value→Shared→Prop} (hP:∀ s',EP X pins σ Q (.ref a) s'→P (.done (.ret .none)) s') :
    wpAny (model X.prog X.w) X.A.in1.in1 (ksk_tree a (.ref f) false) P E s:=by
  have big:1000 < sizeLine:=by decide
  have lx:xs.length=ds.length:=rd.length.symm
  have lu:us.length=ds.length:=by rw [← rv.length,lx]
  have la0:a < s.heap.objs.size:=Heap.lt_size ho
  unfold ksk_tree
  refine wpAny_bind (listItems_at ho rfl ?_)
  refine wpAny_bind (listUpdate_at ho rfl ?_ (by rw [List.size_toArray];omega) (Nat.zero_le _))
  obtain ⟨e1,ho1⟩:∃ e1,(s.heap.update a (Obj.mapSeq fun _=>(#[]:Array Value))).get? a=some (seqObj "list" #[] e1):=⟨_,get?_update_seq ho fun _=>#[]⟩
  refine wpAny_bind (seqEpoch_at ho1 rfl ?_)
  refine wpAny_bind (wpAny_newTuple ?_ (by show us.length≤_;omega))
  refine wpAny_bind (wpAny_newList ?_ (Nat.zero_le _))
  refine wpAny_holding ?_
  have s0:=Heap.SameBut.update s.heap a (Obj.mapSeq fun _=>(#[]:Array Value))
  have hkS:((s.heap.update a (Obj.mapSeq fun _=>(#[]:Array Value))).push (seqObj "tuple" us.toArray 0)).objs.size=s.heap.objs.size+1:=by rw [size_push',Heap.size_update]
  have kp:∀ b o,b ∉ [a]→s.heap.get? b=some o→(((s.heap.update a (Obj.mapSeq fun _=>(#[]:Array Value))).push (seqObj "tuple" us.toArray 0)).push (seqObj "list" #[] 0)).get? b=some o:=fun b o hb e=>Heap.get?_push_of_some _ (Heap.get?_push_of_some _ ((s0.2 b (by simpa using hb)).trans e))
  have okS:(((s.heap.update a (Obj.mapSeq fun _=>(#[]:Array Value))).push (seqObj "tuple" us.toArray 0)).push (seqObj "list" #[] 0)).get? ((s.heap.update a (Obj.mapSeq fun _=>(#[]:Array Value))).push (seqObj "tuple" us.toArray 0)).objs.size=some (seqObj "list" #[] 0):=Heap.get?_push_size _ rfl
  have oa5:(((s.heap.update a (Obj.mapSeq fun _=>(#[]:Array Value))).push (seqObj "tuple" us.toArray 0)).push (seqObj "list" #[] 0)).get? a=some (seqObj "list" #[] e1):=Heap.get?_push_of_some _ (Heap.get?_push_of_some _ ho1)
  generalize eh:((s.heap.update a (Obj.mapSeq fun _=>(#[]:Array Value))).push (seqObj "tuple" us.toArray 0)).push (seqObj "list" #[] 0)=h5 at *
  generalize ek:((s.heap.update a (Obj.mapSeq fun _=>(#[]:Array Value))).push (seqObj "tuple" us.toArray 0)).objs.size=kS at *
  have I5:Inv X pins σ H { s with heap:=h5,toks:=s.toks }:=I.a9X (ch:=[a]) kp (fun b hb=>by simp at hb;subst hb;exact fa)
  have fk:jP X pins H kS:=I.yS (by rw [hkS];exact Nat.le_succ _) (I.hok.fresh (by rw [hkS];exact Nat.le_succ _))
  have hka:kS≠a:=by rw [hkS];exact Nat.ne_of_gt (Nat.lt_succ_of_lt la0)
  unfold ksk_rest
  refine wpAny_bind (wpAny_rule ?_)
  rw [List.forIn_toArray]
  refine wpAny_bind (ksk_fold (fun i s'=>∃ ks,ks.length=i∧KSt X pins σ H c f c' cc kS a e1 ks (fun G'=>u6 sp dx (fun ks G2=>zX ds ks G2 R) (ds.drop i) ks G') s') us 0 { s with heap:=h5 } ⟨[],rfl,⟨H,G,[],[],0,I5,g,.refl H,la,fk,fa,.nil,.nil,okS,oa5,hk⟩⟩ ?step ?done)
  case step =>
    rintro j x s' hxj ⟨ks,hkl,⟨H',G',kvs,kus,e,J,g',ts,la',fk',fa',rk,vk,ok,oa,q⟩⟩
    simp only [Nat.zero_add] at hkl q ⊢
    obtain ⟨d,x',ed,rdd,ru⟩:=Vals.adV rd rv hxj
    have hj:j < ds.length:=(List.getElem?_eq_some_iff.mp ed).1
    have edr:ds.drop j=d :: ds.drop (j+1):=by
      rw [List.drop_eq_getElem_cons hj,(List.getElem?_eq_some_iff.mp ed).2]
    rw [edr] at q
    have lk:kus.length=ks.length:=by rw [← vk.length,← rk.length]
    refine wpAny_bind (wpAny_attempt (wpAny_mono (af2 LO hr J g' la' hcc hN hx hv (rdc.mono ts) ru (rdd.mono ts) q) (fun ku s'' he=>?_) fun _ _ hF=>hF.elim))
    obtain ⟨kv,H2,kd,G2,J2,un,rku,rkd,g2,q2⟩:=he
    try dsimp only
    have ok2:=un.keep kS _ ok fk'.1 (fk'.nfr J) (by simp)
    have oa2:=un.keep a _ oa fa'.1 (fa'.nfr J) (by simp)
    obtain ⟨c2,hc2⟩:∃ c2,(s''.heap.update kS (Obj.mapSeq (·.push ku))).get? kS=some (seqObj "list" (kus.toArray.push ku) c2):=⟨_,get?_update_seq ok2 (·.push ku)⟩
    have sb:=Heap.SameBut.update s''.heap kS (Obj.mapSeq (·.push ku))
    refine wpAny_bind (listUpdate_at ok2 rfl ?_ (by rw [List.size_toArray];omega) (by rw [Array.size_push,List.size_toArray];omega))
    have ts2:Ts H' H2:=⟨un.tups,un.cQ⟩
    have J3:=J2.a9X (t':=s''.toks) (ch:=[kS]) (h':=s''.heap.update kS (Obj.mapSeq (·.push ku))) (fun b u hb e=>(sb.2 b (by simpa using hb)).trans e) (fun b hb=>by simp at hb;subst hb;exact fk'.un ok un)
    exact wpAny_pure ⟨rfl,ks++[kd],by simp [hkl],⟨H2,G2,kvs++[kv],kus++[ku],c2,J3,g2,ts.trans ts2,la'.un un,fk'.un ok un,fa'.un oa un,bF.snoc rkd (rk.mono ts2),Vals.snoc rku vk,by simpa using hc2,(sb.2 a hka.symm).trans oa2,q2⟩⟩
  case done =>
    rintro s' ⟨ks,hkl,⟨H',G',kvs,kus,e,J,g',ts,la',fk',fa',rk,vk,ok,oa,q⟩⟩
    rw [List.drop_of_length_le (by omega)] at q
    obtain ⟨k3,kf,rfl,hkf,hd,hR⟩:=q
    have lk:kus.length=us.length:=by rw [← vk.length,← rk.length];omega
    refine wpAny_bind (listItems_at ok rfl ?_)
    unfold ksk_end
    simp only [Bool.false_eq_true,if_false]
    have fin:∀ (st:SortSt) (q:Array Nat),Pm us.length q→Up kf q us.length→(arrOf st).map (·.2)=(q.toList.map fun i=>us.getD i Value.none).toArray→failedOf st=none→wpAny (model X.prog X.w) X.A.in1.in1 (ksk_tail a false e1 (.ref kS) st) P E s':=by
      intro st q PM U har hf
      unfold ksk_tail
      simp only [Bool.false_eq_true,if_false]
      refine wpAny_bind (listUpdate_at ok rfl ?_ (by rw [List.size_toArray];omega) (Nat.zero_le _))
      refine wpAny_bind (wpAny_letGo ?_)
      have s1:=Heap.SameBut.update s'.heap kS (Obj.mapSeq fun _=>(#[]:Array Value))
      have na1:(s'.heap.update kS (Obj.mapSeq fun _=>(#[]:Array Value))).get? a=some (seqObj "list" #[] e1):=(s1.2 a hka.symm).trans oa
      refine wpAny_bind (seqEpoch_at na1 rfl ?_)
      rw [har]
      refine wpAny_bind (listUpdate_at na1 rfl ?_ (Nat.zero_le _) (by rw [List.size_toArray,List.length_map,Array.length_toList,PM.size];omega))
      rw [hf]
      simp only [bne_self_eq_false,Bool.false_eq_true,if_false]
      have s2:=Heap.SameBut.update (s'.heap.update kS (Obj.mapSeq fun _=>(#[]:Array Value))) a (Obj.mapSeq fun _=>(q.toList.map fun i=>us.getD i Value.none).toArray)
      obtain ⟨c3,hc3⟩:∃ c3,((s'.heap.update kS (Obj.mapSeq fun _=>(#[]:Array Value))).update a (Obj.mapSeq fun _=>(q.toList.map fun i=>us.getD i Value.none).toArray)).get? a=some (seqObj "list" (q.toList.map fun i=>us.getD i Value.none).toArray c3):=⟨_,get?_update_seq na1 fun _=>(q.toList.map fun i=>us.getD i Value.none).toArray⟩
      have hin:∀ i∈q.toList,i < ds.length:=fun i hi=>by rw [← lu];exact List.mem_range.mp (PM.perm.mem_iff.mp hi)
      have fr:H' a=none:=fa'.1
      have sn:Same H' (upd H' a (.lst (q.toList.map fun i=>xs.getD i .non))):=aW fr
      refine wpAny_pure (hP _ ?_)
      have Jf:=J.af0 (t':=s'.toks) (h':=(s'.heap.update kS (Obj.mapSeq fun _=>(#[]:Array Value))).update a (Obj.mapSeq fun _=>(q.toList.map fun i=>us.getD i Value.none).toArray)) (ch:=[kS,a]) (a:=a) (o := .lst (q.toList.map fun i=>xs.getD i .non)) (fun b u hb e=>by
        simp only [List.mem_cons,List.not_mem_nil,or_false,not_or] at hb
        exact (s2.2 b hb.2).trans ((s1.2 b hb.1).trans e)) (fun b hb=>by
        simp only [List.mem_cons,List.not_mem_nil,or_false] at hb
        rcases hb with rfl | rfl
        · exact fk'
        · exact fa') (by simp) ⟨by rw [List.length_map,Array.length_toList,PM.size];omega,_,c3,a2Q rv fun i hi=>by rw [lx];exact hin i hi,hc3⟩
      rw [lu] at PM U
      exact ⟨.ref a,_,Jf,rfl,kk _ _ (.ref a) _ (ts.trans (.same sn)) (.ref a) (g'.put (u := .lst _) fr ⟨_,aD,(a2X rd hin).mono (ts.trans (.same sn))⟩) (hR q PM U a (gC g' fr (qP Jf)))⟩
    by_cases c2:us.toArray.size < 2
    · rw [if_pos c2,if_pos c2]
      refine wpAny_bind (wpAny_pure ?_);rw [StateT.run_pure];refine wpAny_bind (wpAny_pure ?_);dsimp only
      have c3:us.length < 2:=by simpa using c2
      refine fin _ (List.range us.length).toArray ⟨by rw [List.size_toArray,List.length_range],.refl _⟩ (fun i j hij hj=>by have:i=j:=(by omega);subst this;exact Int.le_refl _) ?_ rfl
      show (kus.toArray.zip us.toArray).map (·.2)=_
      have e1:(kus.toArray.zip us.toArray).map (·.2)=us.toArray:=by
        apply Array.ext
        · simp;omega
        · intro i h1 h2;simp
      rw [e1]
      have e2:(List.range us.length).toArray.toList.map (fun i=>us.getD i Value.none)=us:=by
        apply List.ext_getElem (by simp)
        intro i h1 h2
        simp [h2]
      rw [e2]
    · rw [if_neg c2,if_neg c2]
      have l2:2≤us.length:=by rw [List.size_toArray] at c2;omega
      obtain ⟨κ,k1,k2⟩:=apA J (A:=X.A.in1.in1) (by show X.A.units+1+1+32 < cLine;omega) rk vk (by omega) hkf
      refine wpAny_bind (wpAny_mono (k1 (fun κ' s''=>κ'=κ∧s''=s') ⟨rfl,rfl⟩) (fun κ' s'' ⟨q1,q2⟩=>?_) fun _ _ z=>z.elim)
      subst q1;subst q2
      refine wpAny_bind (wpAny_mono (kat_run (vs:=us) (Q:=fun st' s3=>s3=s''∧failedOf st'=none∧∃ q,Pm us.length q∧Up kf q us.length∧arrOf st'=q.map (kas_item (kus.toArray.zip us.toArray)))
        (G:=fun q s3=>s3=s''∧Pm us.length q∧Up kf q us.length) lk l2 (by omega) (fun p st' s3 a1 a2 a3 a4=>⟨a4.1,a3,p,a4.2.1,a4.2.2,a2⟩)
        (aj3 (I:=fun s3=>s3=s'') (fun i j C s3 hi hj es hC=>by subst es;exact k2 i j C (by omega) (by omega) (hC _ rfl)) (fun i j hi hj=>hd i j (by omega) (by omega)) l2 rfl fun q s3 P u es=>⟨es,P,u⟩)) ?_ fun _ _ e=>e)
      rintro ⟨⟨⟩,st'⟩ s3 ⟨es,hf,q,PM,u,har⟩
      subst es;dsimp only
      exact fin st' q PM u (kat_snds lk har) hf
end
end L2
namespace L2
open PySem PySem.Spec PyProof.Rows PySem.W
section
variable {X:Cx} {qt:Bool} {k ix:Nat} {c:tH} {sp:jT} {T cC cc:Addr} {e:Expr} {te:bL} {p pos kp:Pos}
def az8 (X:Cx) (T:Addr) (c:tH) (cc:Addr):TE:=fun σ H Q=>∃ ps,H T=some (.qF ps)∧mZ H c.qual c.pos ps ∧
  ∀ f c' ps' H',xH X c f c' cc H'→H' T=some (.qF ps')→mZ H' c.qual c.pos ps'→H f=none→(∀ b u,b≠T→H b=some u→H' b=some u)→Q (.ref f) H'
theorem av2 (hC:CodeHd X.base cC T) (hbt:X.base.BuiltinsAt X.mg T) (hcode:X.env.code = .ref cC) (hcl:closureFor c.scope X.env=pure [(c.x,cc)]) (hd:defaultsOf c.params X.env=([],[])) (hq:X.env.qual ++ "<lambda>" = c.qual) :
    PE X (.Lambda c.params c.body c.scope c.pos) (az8 X T c cc):=by
  intro pins s σ H Q I h _tk
  obtain ⟨ps,hT,st,h⟩:=h
  refine kla_eval hd ?_
  rw [hq]
  exact anG I hT st hC hbt hcode hcl fun f c' ctv ps' H' s' I' ff hf rc hT' st' kp=>⟨.ref f,H',I',rfl,h f c' ps' H' ⟨⟨ctv,hf⟩,rc⟩ hT' st' ff kp⟩
def af4 (te:bL) (T:Addr) (c:tH) (ix:Nat) (sp:jT):bL:=fun ρ G R=>te ρ G fun x G1=>∃ l ds dx,x = .ref l∧aZ G1 l=some ds∧ds.length < 64∧at3 ρ ix=some dx∧G1 T=some (.tab c.qual c.pos)∧u6 sp dx (fun ks G2=>zX ds ks G2 R) ds [] G1
theorem ajD (LO:tR qt X.prog X.w X.K X.mg X.base k c sp) (hr:bQ qt k X.A.in1.in1) (hu:X.A.units+64 < cLine) (hg:Gl X "sorted") (hm:X.mg "sorted" = none) (hN:X.N[ix]?=some c.x) (hx:X.env.scope.names.lookup c.x=some .cell)
    (hcf:c.scope.names.filter (fun p=>p.2 == .free)=[(c.x,.free)]) (hC:CodeHd X.base cC T) (hbt:X.base.BuiltinsAt X.mg T) (hcode:X.env.code = .ref cC) (hd:defaultsOf c.params X.env=([],[])) (hq:X.env.qual ++ "<lambda>" = c.qual) (he:bV X e te)
    (hs:starEach [e] X.env=[(false,eval e X.env)]):bV X (.Call (.Name "sorted" p) [e] [⟨some "key",.Lambda c.params c.body c.scope c.pos,kp⟩] pos) (af4 te T c ix sp):=by
  intro pins s σ H Q I h _tk
  obtain ⟨ρ,G,R,sr,g,q,kk⟩:=h
  have big:1000 < sizeLine:=by decide
  obtain ⟨cc,hcc⟩:=I.ok.has c.x (.inl hx)
  refine wpAny_Call_Name_kw (yR I hg hm (u := .builtin "sorted") (by decide +kernel) ?_ (by decide) (by decide))
  have hA:=(o8 he a5Y (by rw [hs];rfl)) pos pins s σ H (fun vs H1=>Ts H H1∧∃ ds G1,bF X.K H1 ds vs∧HR X.K H1 G1∧(match ds with
    | [y]=>∃ l ds dx,y = .ref l∧aZ G1 l=some ds∧ds.length < 64∧at3 ρ ix=some dx∧G1 T=some (.tab c.qual c.pos)∧u6 sp dx (fun ks G2=>zX ds ks G2 R) ds [] G1
    | _=>False)) I ⟨ρ,G,(fun ds G1=>match ds with
    | [y]=>∃ l ds dx,y = .ref l∧aZ G1 l=some ds∧ds.length < 64∧at3 ρ ix=some dx∧G1 T=some (.tab c.qual c.pos)∧u6 sp dx (fun ks G2=>zX ds ks G2 R) ds [] G1
    | _=>False),sr,g,q,fun vs H1 ds G1 t1 r1 g1 q1=>⟨t1,ds,G1,r1,g1,q1⟩⟩
  refine callWith_kw (cD hA fun us s1 ⟨vs,H1,I1,rr,t1,ds,G1,r1,g1,q1⟩=>?_) (by rw [hs];rfl) (by rw [hs];rfl) rfl rfl
  split at q1
  · rename_i y
    obtain ⟨l,ds,dx,rfl,e1,h64,hix,hGT,hk⟩:=q1
    cases r1 with
    | @cons _ vy _ _ ry rn =>
      cases rn
      cases rr with
      | @cons _ uy _ _ ru rn =>
        cases rn
        cases ry;cases ru
        obtain ⟨ps1,hT1,st1⟩:=g1 T _ hGT
        refine cD (ahJ (nm:=some "key") (kpos:=kp) (av2 (cc:=cc) hC hbt hcode (qT hcf hcc) hd hq) an1 pos pins s1 σ H1 (fun zs H2=>∃ f c' ps',zs=[.ref f]∧xH X c f c' cc H2∧H2 T=some (.qF ps')∧mZ H2 c.qual c.pos ps'∧(∀ b u,b≠T→H1 b=some u→H2 b=some u)) I1 ⟨ps1,hT1,st1,fun f c' ps' H2 la hT2 st2 _ kp2=>⟨f,c',ps',rfl,la,hT2,st2,kp2⟩⟩) fun kvs s2 ⟨zs,H2,I2,rz,f,c',ps',ez,la,hT2,st2,kp2⟩=>?_
        subst ez
        cases rz with
        | @cons _ kv _ _ rk rn =>
          cases rn
          cases rk
          show wpAny _ _ (call (.builtin "sorted") [.ref l] [(Str.ofString "key",.ref f)]) _ _ s2
          have ts:Ts H1 H2:=⟨fun a xs q0=>kp2 a _ (jN q0 hT1 (fun z=>by cases z)) q0,fun a o u q0=>kp2 a _ (jN q0 hT1 (fun z=>by cases z)) q0⟩
          have g2:HR X.K H2 G1:=fun a o q0=>by
            by_cases y:a=T
            · rw [y,hGT] at q0;cases q0
              rw [y]
              exact ⟨ps',hT2,st2⟩
            · exact (g1 a o q0).keep ts fun u q=>kp2 a u y q
          obtain ⟨xs,hsq,rd⟩:=bR g2 e1
          obtain ⟨its,rv,pl,_⟩:=I2.list hsq
          have li:its.length=ds.length:=by rw [← rv.length,← rd.length]
          obtain ⟨vc,hv,rdc⟩:=(sr.mono (t1.trans ts)).get hix
          refine call_function_entry_kw kind_sorted plain_sorted entry_sorted (ksk_s1 _ _) ?_
          unfold Builtin.«sorted»
          refine wpAny_bind (m:=checkCount "sorted" 1 1 _) (wpAny_pure ?_)
          refine wpAny_bind (collect_list pl.isList ?_ (by omega))
          refine wpAny_bind (wpAny_newList ?_ (by omega))
          have sz:((s2.heap.push (seqObj "list" #[] 0)).update s2.heap.objs.size (Obj.mapSeq (·++its.toArray))).objs.size=s2.heap.objs.size+1:=by rw [Heap.size_update,size_push']
          have oL:(((s2.heap.push (seqObj "list" #[] 0)).update s2.heap.objs.size (Obj.mapSeq (·++its.toArray))).push (seqObj "list" its.toArray 0)).get? (s2.heap.objs.size+1)=some (seqObj "list" its.toArray 0):=by rw [← sz];exact Heap.get?_push_size _ rfl
          have kp:∀ b o,s2.heap.get? b=some o→(((s2.heap.push (seqObj "list" #[] 0)).update s2.heap.objs.size (Obj.mapSeq (·++its.toArray))).push (seqObj "list" its.toArray 0)).get? b=some o:=fun b o e=>Heap.get?_push_of_some _ (((Heap.SameBut.update (s2.heap.push (seqObj "list" #[] 0)) s2.heap.objs.size (Obj.mapSeq (·++its.toArray))).2 b (Nat.ne_of_lt (Heap.lt_size e))).trans (Heap.get?_push_of_some _ e))
          show wpAny _ _ _ _ _ { s2 with heap:=((s2.heap.push (seqObj "list" #[] 0)).update s2.heap.objs.size (Obj.mapSeq (·++its.toArray))).push (seqObj "list" its.toArray 0) };rw [sz]
          refine wpAny_bind (wpAny_holding (wpAny_call_entry_kw slot_list_sort ⟨_,oL,rfl⟩ entry_list_sort ?body (ksk_l1 _ _)))
          case body =>
            show wpAny (model X.prog X.w) X.A.in1.in1 (Builtin.«list.sort» ⟨[.ref (s2.heap.objs.size+1)],[(Str.ofString "key",.ref f)]⟩) _ _ _
            rw [ksk_t1]
            exact a8E LO hr hu (I2.kept (t':=s2.toks) kp) g2 la hcc hN hx hv rdc rd rv oL (I2.yS (Nat.le_succ _) (I2.hok.fresh (Nat.le_succ _))) h64 hk (fun v H' d G' t=>kk v H' d G' ((t1.trans ts).trans t)) fun s' ep=>⟨_,rfl,wpAny_pure ⟨_,rfl,ep⟩⟩
  · exact q1.elim
end
end L2
namespace L2
open PySem PySem.Spec PyProof.Rows PySem.W
theorem aa5 {K:Fg} {H:Hp} {d:D} {v:V} (h:RD K H d v):∀ {ds:List D} {xs:List V} (j:Nat),bF K H ds xs→bF K H (ds.take j++d :: ds.drop j) (xs.take j++v :: xs.drop j)
  | [],_,j,.nil=>by simpa using bF.cons h .nil
  | _ :: _,_,0,r=>by simpa using bF.cons h r
  | _ :: _,_,j+1,.cons a r=>by simpa using bF.cons a (aa5 h j r)
theorem a6N {v:V} {u:Value} (h:RelV v u):∀ {xs:List V} {us:List Value} (j:Nat),Vals xs us→Vals (xs.take j++v :: xs.drop j) (us.take j++u :: us.drop j)
  | [],_,j,.nil=>by simpa using Paired.cons h .nil
  | _ :: _,_,0,r=>by simpa using Paired.cons h r
  | _ :: _,_,j+1,.cons a r=>by simpa using Paired.cons a (a6N h j r)
section
variable {X:Cx}
def nJ:xU:=fun x xs G R=>match xs with
  | [.int i,z]=>a2M x G fun p ds=>∃ j:Nat,i=(j:Int)∧j≤ds.length∧ds.length < sizeLine∧R .non (aL G p (.lst (ds.take j++z :: ds.drop j)))
  | _=>False
theorem a6O:rA X "list.insert" nJ:=fun pins s σ H x xs vx vs u us G R Q I rx rs ru rv g q k=>by
  have big:sizeLine < 2 ^ 62:=by decide
  unfold nJ at q
  split at q
  · rename_i i z
    obtain ⟨p,ds,ys,rfl,rfl,e,e1,r,j,ei,hj,hlt,q⟩:=a6F rx g q
    cases rs with
    | cons r1 rr =>
    cases rr with
    | @cons _ vz _ _ rz rr =>
    cases rr
    cases r1
    obtain rfl:u=Value.ref p:=ru
    cases rv with
    | cons rv1 rv =>
    cases rv with
    | @cons _ uz _ _ rv2 rv =>
    cases rv
    obtain ⟨t2,rfl⟩:=rv1
    obtain ⟨hz,its,n,rvs,ho⟩:=(show cG X.prog X.w H s.heap p (.lst ys) from I.hok p _ e1)
    have hl:ds.length=ys.length:=r.length
    have hl2:ys.length=its.length:=rvs.length
    have hf:Builtin.List.listFitsIndex i=true:=by
      rw [ei]
      unfold Builtin.List.listFitsIndex
      simp
      omega
    have hz':its.toArray.size≤sizeLine:=by rw [List.size_toArray,← hl2];exact hz
    have mt:=PySem.AutoListH.list_insert_list_int_val_1 p its.toArray n i t2 uz (by rw [hf];decide) hz'
    refine call_meets PySem.F.slot_list_insert ⟨_,ho,rfl⟩ PySem.F.entry_list_insert (PySem.F.args_list_insert_3 _ _ _) mt ⟨ho,?_⟩
    have hs:=Heap.SameBut.update s.heap p (Obj.mapSeq fun xs=>have k:=if i < 0 then (i+((xs.size:Nat):Int)).toNat else min i.toNat xs.size;(xs.extract 0 k).push uz++xs.extract k)
    obtain ⟨n',ho'⟩:∃ n',(s.heap.update p (Obj.mapSeq fun xs=>have k:=if i < 0 then (i+((xs.size:Nat):Int)).toNat else min i.toNat xs.size;(xs.extract 0 k).push uz++xs.extract k)).get? p=some (seqObj "list" (its.take j++uz :: its.drop j).toArray n'):=by
      have:=get?_update_seq ho fun xs=>have k:=if i < 0 then (i+((xs.size:Nat):Int)).toNat else min i.toNat xs.size;(xs.extract 0 k).push uz++xs.extract k
      have ek:(if i < 0 then (i+((its.toArray.size:Nat):Int)).toNat else min i.toNat its.toArray.size)=j:=by
        rw [ei,if_neg (by omega),List.size_toArray]
        simp
        omega
      have e:((its.toArray.extract 0 j).push uz++its.toArray.extract j)=(its.take j++uz :: its.drop j).toArray:=by
        apply Array.toList_inj.mp
        simp
        first
          | done
          | exact List.take_of_length_le (by simp)
      rw [ek,e] at this
      exact ⟨_,this⟩
    have le:(ys.take j++vz :: ys.drop j).length≤sizeLine:=by
      simp
      omega
    have tt:Ts H (upd H p (.lst (ys.take j++vz :: ys.drop j))) := .turn e1 (fun _ z=>nomatch z) (fun _ _ z=>nomatch z)
    exact ⟨.non,_,I.write (t':=s.toks) (x:=p) (e:=p) (o := .lst (ys.take j++vz :: ys.drop j)) (by rw [e1];exact True.intro) (.inl rfl) (fun b o hb z=>(hs.2 b hb).trans z) ⟨_,ho'⟩ ⟨le,_,n',a6N rv2 j rvs,ho'⟩,rfl,k _ _ _ _ tt .non (g.turn (u := .lst _) tt ⟨_,aD,(aa5 rz j r).mono tt⟩) q⟩
  · exact q.elim
def a6P:xU:=fun x xs G R=>match xs with
  | [y,z]=>nF x y G fun a t kvs k=>t=false∧kvs.length < sizeLine∧(match eF kvs k with
    | some d=>R d G
    | none=>R z (aL G a (.iI t (zQ kvs k z))))
  | _=>False
theorem av4 (hu:X.A.units+64 < cLine):rA X "dict.setdefault" a6P:=by
  intro pins s σ H x xs vx vs u us G R Q I rx rs ru rv g q k
  unfold a6P at q
  split at q
  case h_2=>exact q.elim
  case h_1 y z =>
    cases rs with
    | cons ry rs =>
    cases rs with
    | @cons _ vz _ _ rz rs =>
    cases rs
    cases rv with
    | @cons _ uy _ _ rvy rv =>
    cases rv with
    | @cons _ uz _ _ rvz rv =>
    cases rv
    obtain ⟨a,kvs,kk,rfl,rfl,e1,_,⟨ht,hl,q⟩,dd⟩:=jV rx ry g q
    obtain rfl:u=Value.ref a:=ru
    rcases dd with ⟨k',ys,rfl,e,r,rfl⟩ | ⟨ks,ys,b,rfl,_⟩
    · obtain ⟨z1,hd,ws,rel,dc⟩:=a9D I.hok e
      have hw:=val_two oE (k:=k') r
      have hv:=rel.val k'
      refine call_meetsIn PySem.F.slot_dict_setdefault dc.typeIs PySem.F.entry_dict_setdefault (PySem.F.args_dict_setdefault_3 _ _ _) (kt_meets_setdefault (aH X.prog X.w) a (uP rvy) hd uz) ⟨ws,dc,by rw [← rel.length];exact z1,fun v hp=>?_,fun hn h' dc' hs=>?_⟩
      · rw [hp] at hv
        cases e2:eF kvs (.inl k') with
        | none=>rw [hw.2 e2] at hv;exact (show False from hv).elim
        | some d =>
          rw [e2] at q
          obtain ⟨v,e3,rd⟩:=hw.1 d e2
          rw [e3] at hv
          exact ⟨v,H,I.tok _,hv,k v H d G (.refl H) rd g q⟩
      · rw [hn] at hv
        cases e2:eF kvs (.inl k') with
        | some d =>
          obtain ⟨v,e3,rd⟩:=hw.1 d e2
          rw [e3] at hv;exact (show False from hv).elim
        | none =>
          rw [e2] at q
          have tt:Ts H (upd H a (.dK (putK ys k' vz))) := .turn e (fun _ z=>nomatch z) (fun _ _ z=>nomatch z)
          have hl2:(putK ys k' vz).length≤sizeLine:=by have:=lQ ys k' vz;rw [← r.length] at this;omega
          have he:∃ q,h'.get? a=some q:=let ⟨q,_,_,hq,_⟩:=dc';⟨q,hq⟩
          exact ⟨_,_,lR (t':=_) (ob := .dK (putK ys k' vz)) I (by rw [e];exact True.intro) hs he (a3L hl2 hd (rel.put k' rvz) dc'),rvz,k _ _ z _ tt (rz.mono tt) (g.turn (u := .iI false _) tt (.inl ⟨rfl,_,aD,(yE oE rz r).imp fun _ _ q=>⟨q.1,q.2.mono tt⟩⟩)) q⟩
    · cases ht
def abY (x y:D) (F:dH) (ρ:aQ) (G:Gp):Prop:=match x with
  | .ref a=>∃ (k:NK) (ks:List NK),y = .tup [.tup (k.1.map D.int),.int k.2]∧(G a=some (.nst ks)∨(G a=some (.iI true [])∧ks=[]))∧k ∉ ks∧ks.length < 1000∧F.nx ρ (aL G a (.nst (ks++[k])))
  | _=>False
def a4M (to ti tv:bL):bK:=fun F ρ G=>tv ρ G fun v G1=>to ρ G1 fun x G2=>ti ρ G2 fun y G3=>abY x y F ρ G3
theorem apC {o i value:Expr} {to ti tv:bL} {pos pos':Pos} (hu:X.A.units+64 < cLine) (ho:bV X o to) (hi:bV X i ti) (hv:bV X value tv) (hs:swapsWith value (some (.Subscript o i pos')) pos.line X.env=pure false):PS3 X (.Assign [.Subscript o i pos'] value pos) (a4M to ti tv):=by
  intro pins s σ H D I h _tk
  obtain ⟨ρ,G,F,sr,g,t,up⟩:=h
  have big:1000 < sizeLine:=by decide
  refine wpAny_Assign_Subscript (cD (hv pins s σ H (fun v H1=>Ts H H1∧∃ d G1,RD X.K H1 d v∧HR X.K H1 G1∧to ρ G1 fun x G2=>ti ρ G2 fun y G3=>abY x y F ρ G3) I ⟨ρ,G,_,sr,g,t,fun v H1 d G1 t1 r1 g1 q1=>⟨t1,d,G1,r1,g1,q1⟩⟩) fun r s1 ⟨v,H1,I1,rv,t1,d,G1,rd,g1,q1⟩ =>
    cD (ho pins s1 σ H1 (fun v H2=>Ts H1 H2∧∃ x G2,RD X.K H2 x v∧HR X.K H2 G2∧ti ρ G2 fun y G3=>abY x y F ρ G3) I1 ⟨ρ,G1,_,sr.mono t1,g1,q1,fun v H2 d G2 t2 r2 g2 q2=>⟨t2,d,G2,r2,g2,q2⟩⟩) fun u s2 ⟨vx,H2,I2,rx,t2,x,G2,rdx,g2,q2⟩ =>
    cD (hi pins s2 σ H2 (fun v H3=>Ts H2 H3∧∃ y G3,RD X.K H3 y v∧HR X.K H3 G3∧abY x y F ρ G3) I2 ⟨ρ,G2,_,sr.mono (t1.trans t2),g2,q2,fun v H3 d G3 t3 r3 g3 q3=>⟨t3,d,G3,r3,g3,q3⟩⟩) fun iv s3 ⟨vy,H3,I3,ry,t3,y,G3,rdy,g3,q3⟩=>?_) hs
  cases x with
  | ref a =>
    obtain ⟨k,ks,rfl,e1,nk,lk,q3⟩:=q3
    cases rdx
    obtain rfl:u=Value.ref a:=rx
    obtain ⟨b,rfl,ns⟩:=aeN rdy
    obtain rfl:iv=Value.ref b:=ry
    obtain ⟨ys,mu,n1,n2,e4,hd,dd,hall⟩:=a8C I3 g3 e1
    have ly:ys.length=ks.length:=by rw [← e4,List.length_map]
    have an:atKey ys k=none:=by
      have:=a4J (k:=k) (xs:=ys)
      rw [e4,decide_eq_false nk] at this
      simpa using this
    refine wpAny_setItem_heap (knd:=u0 X.prog X.w) (by show X.A.units+1+8 < cLine;omega) (a9Z I3 ns) dd (fun h' dd' hs'=>?_) (by omega)
    rw [storedH_new an] at dd'
    obtain ⟨q0,es,ep,z1,z2,z3,z4,_,z5⟩:=dd'
    obtain ⟨o3,eo⟩:∃ o3,H3 a=some o3:=by
      cases e:H3 a with
      | none=>rw [e] at mu;exact mu.elim
      | some o3=>exact ⟨o3,rfl⟩
    have tt:Ts H3 (upd H3 a (.ext (anJ X.prog X.w a (ys++[(k,b,r)])))) := .turn eo (fun xs z=>n1 xs (by rw [eo,z])) (fun o u z=>n2 o u (by rw [eo,z]))
    refine ⟨σ,_,lR (t':=_) (ob := .ext (anJ X.prog X.w a (ys++[(k,b,r)]))) I3 mu hs' ⟨q0,z1⟩ ⟨⟨hd,q0,es,ep,z1,z2,z3,z4,z5⟩,⟨q0,z1⟩,fun h1 h2 z kp=>?_⟩,up.nx ρ _ σ _ (sr.mono (((t1.trans t2).trans t3).trans tt)) (g3.turn (u := .nst (ks++[k])) tt ⟨X.prog,X.w,ys++[(k,b,r)],aD,by rw [List.map_append,e4];rfl,fun x hx=>?_⟩) q3⟩
    · obtain ⟨y0,o1,es1,ep1,y1,y2⟩:=z
      exact ⟨y0,o1,es1,ep1,kp _ y1,y2⟩
    · rcases List.mem_append.mp hx with hx | hx
      · exact (hall x hx).elim fun c w=>⟨c,tt.sqT w.1,tt.sqT w.2⟩
      · rw [List.mem_singleton] at hx
        subst hx
        exact ns.elim fun c w=>⟨c,tt.sqT w.1,tt.sqT w.2⟩
  | _=>exact q3.elim
end
end L2
namespace L4
open PySem PySem.Spec PyProof.Rows L2
inductive BF where
  | len | isi
  deriving DecidableEq
inductive MK where
  | append | join | split | starts | count | abZ | insert
  deriving DecidableEq
inductive DM where
  | sdf | pop | sdk
  deriving DecidableEq
inductive GT where
  | con (d:D) | cls (a:Addr) | fn (sp:jT) (n:Nat) (qt:Bool) | bf (b:BF) | bt (n:String) | kl (C:Addr) (sp:jT) (dd:List D) | me (C:Addr) (m:Str) (sp:jT) (dd:List D) | fl (C:Addr) (f:Str) | clo (c:uW) (sp:jT) | fnP (sp:jT) (n:Nat)
structure SI where
  N:List Str
  fl:List Bool
  lc:List Bool
  ce:List Bool
  gl:List (Str×GT)
  gv:List Bool
  calm:Bool
  need:Bool
mutual
inductive CE where
  | tix (k:Nat) (e:CE) | repl (e:CE) (y z:Str) | aa6 (ks:List Str) (es:yJ) | fre (i:Nat) | callC (i k:Nat) (e:CE) (es:yJ) | var (i:Nat) | con (d:D) | glo (k:Nat) | neg (a:CE) | bin (o:Operator) (a b:CE) | cmp (o:CmpOp) (a b:CE)
  | ajE (es:yJ) | ifx (c:CT) (a b:CE) | tup (es:yJ) | lst (es:yJ) | dct | ix (a b:CE) | sl (a:CE) (lo hi:CO) | call (k:Nat) (es:yJ) | meth (m:MK) (o:CE) (es:yJ)
  | aa7 (n:Nat) (fl gv:List Bool) (ci:CI) (cc:CC) (e:CE) | din (neg:Bool) (a b:CE) | dgt (o e f:CE) | ajF | dm (m:DM) (o e:CE) (es:yJ)
inductive yJ where
  | nil | cons (e:CE) (r:yJ)
inductive CT where
  | cmp (o:CmpOp) (a b:CE) | not (t:CT) | and (ts:CTs) | or (ts:CTs) | val (e:CE) | din (neg:Bool) (a b:CE)
inductive CTs where
  | nil | cons (t:CT) (r:CTs)
inductive CO where
  | none | some (e:CE)
inductive CI where
  | any (e:CE) | a6Q (e:CE)
inductive CC where
  | none | some (t:CT)
end
abbrev SI.cmp (S:SI) (xs:List Str) (fl gv:List Bool):SI:=⟨xs++S.N,xs.map (fun _=>true)++fl,xs.map (fun _=>true)++S.N.map (fun _=>false),xs.map (fun _=>false)++fl,S.gl,gv,S.calm,false⟩
def a8F:bL:=fun _ _ _=>False
def alI:rZ:=fun _ _ _=>False
def NoX:aQ→aY:=fun _ _ _=>False
def alK:Operator→R3
  | .Add=>dI
  | .Sub=>a2C
  | .Mult=>qQ
  | .FloorDiv=>cF
  | .Mod=>cA
  | .Pow=>al7
  | _=>fun _ _ _ _=>False
def af5:CmpOp→R3
  | .Eq=>v7
  | .NotEq=>a82
  | .Lt=>adM
  | .LtE=>atX
  | .Gt=>adN
  | .GtE=>atV
  | .Is=>anQ
  | .IsNot=>adP
  | .In=>auC
  | .NotIn=>xZ
def aAZ:Bool→R3
  | true=>auN
  | false=>auM
def av6 (K:Fg):BF→List D→Gp→dG→Prop
  | .len=>tL
  | .isi=>cB K
def apE (n:String):List D→Gp→dG→Prop:=if n = "int" then a9S else if n = "list" then zL else if n = "str" then alE else if n = "tuple" then vD else fun _ _ _=>False
def dmN:DM→Str
  | .sdf => "setdefault"
  | .sdk => "setdefault"
  | .pop => "pop"
def dmR:DM→xU
  | .sdf=>aeP
  | .sdk=>a6P
  | .pop=>aeQ
def mkT:MK→String
  | .append => "list"
  | .join => "str"
  | .split => "str"
  | .starts => "str"
  | .count => "list"
  | .abZ => "list"
  | .insert => "list"
def mkR:MK→xU
  | .append=>iD
  | .join=>u5
  | .split=>yH
  | .starts=>nG
  | .count=>sI
  | .abZ=>wU
  | .insert=>nJ
def mkN:MK→Str
  | .append => "append"
  | .join => "join"
  | .split => "split"
  | .starts => "startswith"
  | .count => "count"
  | .abZ => "pop"
  | .insert => "insert"
def apF (T:List (Str×GT)) (k:Nat):bL:=match T[k]? with
  | some (_,.con d)=>bA d
  | some (_,.cls a)=>bA (.ref a)
  | some (_,.bt n)=>bA (.ty n)
  | _=>a8F
def apG (T:List (Str×GT)) (K:Fg) (ex:aQ→aY) (k:Nat) (t:lO):bL:=match T[k]? with
  | some (_,.fn sp _ _)=>bZ sp ex t
  | some (_,.cls a)=>aeE a t
  | some (_,.bf b)=>qY (av6 K b) t
  | some (_,.bt n)=>qY (apE n) t
  | some (_,.kl C sp dd)=>a8A C sp dd ex t
  | _=>a8F
def apH:Bool→R3
  | true=>wR
  | false=>alD
def mCC (T:List (Str×GT)) (i k:Nat) (t:lO):bL:=match T[k]? with
  | some (_,.clo c sp)=>a3U i c sp t
  | _=>a8F
def apI (T:List (Str×GT)) (k:Nat) (t:bL):bL:=match T[k]? with
  | some (_,.con (.tup ds))=>aj8 ds t
  | _=>a8F
mutual
def mE (T:List (Str×GT)) (K:Fg) (ex:aQ→aY):CE→bL
  | .tix k e=>apI T k (mE T K ex e)
  | .repl e y z=>tM3 "str" nH (mE T K ex e) (aA (bA (.str y)) (aA (bA (.str z)) aK))
  | .aa6 ks es=>a4L ks (mA T K ex es)
  | .fre i=>aB i
  | .callC i k e es=>mCC T i k (aA (mE T K ex e) (mA T K ex es))
  | .var i=>aB i
  | .con d=>bA d
  | .glo k=>apF T k
  | .neg a=>a66 (mE T K ex a)
  | .bin o a b=>aJ (alK o) (mE T K ex a) (mE T K ex b)
  | .cmp o a b=>aJ (af5 o) (mE T K ex a) (mE T K ex b)
  | .ajE es=>apJ T K ex es
  | .ifx c a b=>abO (mT T K ex c) (mE T K ex a) (mE T K ex b)
  | .tup es=>pK (mA T K ex es)
  | .lst es=>pL (mA T K ex es)
  | .dct=>a4C
  | .ix a b=>aJ bN (mE T K ex a) (mE T K ex b)
  | .sl a lo hi=>sG (mE T K ex a) (mO T K ex lo) (mO T K ex hi)
  | .call k es=>apG T K ex k (mA T K ex es)
  | .meth m o .nil=>aoH (mkT m) (mkR m) (mE T K ex o)
  | .meth m o (.cons e r)=>tM3 (mkT m) (mkR m) (mE T K ex o) (aA (mE T K ex e) (mA T K ex r))
  | .aa7 n _ _ ci cc e=>a9U n (mI T K ex ci) (mC T K cc) (mE T K NoX e)
  | .din neg a b=>aJ (apH neg) (mE T K ex a) (mE T K ex b)
  | .dgt o e f=>yF (mE T K ex o) (mE T K ex e) (mE T K ex f)
  | .ajF=>yC
  | .dm m o e es=>aeO (dmR m) (mE T K ex o) (aA (mE T K ex e) (mA T K ex es))
def mA (T:List (Str×GT)) (K:Fg) (ex:aQ→aY):yJ→lO
  | .nil=>aK
  | .cons e r=>aA (mE T K ex e) (mA T K ex r)
def apJ (T:List (Str×GT)) (K:Fg) (ex:aQ→aY):yJ→bL
  | .nil=>a8F
  | .cons e .nil=>mE T K ex e
  | .cons e (.cons e' r)=>zH (mE T K ex e) (apJ T K ex (.cons e' r))
def mOr (T:List (Str×GT)) (K:Fg) (ex:aQ→aY):yJ→bL
  | .nil=>a8F
  | .cons e .nil=>mE T K ex e
  | .cons e (.cons e' r)=>al5 (mE T K ex e) (mOr T K ex (.cons e' r))
def mT (T:List (Str×GT)) (K:Fg) (ex:aQ→aY):CT→rZ
  | .cmp o a b=>bM (aJ (af5 o) (mE T K ex a) (mE T K ex b))
  | .not t=>a5X (mT T K ex t)
  | .and ts=>af6 T K ex ts
  | .or ts=>apK T K ex ts
  | .val e=>bM (mE T K ex e)
  | .din neg a b=>bM (aJ (apH neg) (mE T K ex a) (mE T K ex b))
def af6 (T:List (Str×GT)) (K:Fg) (ex:aQ→aY):CTs→rZ
  | .nil=>alI
  | .cons e .nil=>mT T K ex e
  | .cons e (.cons e' r)=>a5W (mT T K ex e) (af6 T K ex (.cons e' r))
def apK (T:List (Str×GT)) (K:Fg) (ex:aQ→aY):CTs→rZ
  | .nil=>alI
  | .cons e .nil=>mT T K ex e
  | .cons e (.cons e' r)=>a80 (mT T K ex e) (apK T K ex (.cons e' r))
def mO (T:List (Str×GT)) (K:Fg) (ex:aQ→aY):CO→TO3
  | .none=>nA
  | .some e=>wI (mE T K ex e)
def mI (T:List (Str×GT)) (K:Fg) (ex:aQ→aY):CI→TI3
  | .any e=>wM (mE T K ex e)
  | .a6Q e=>rB (aA (mE T K ex e) aK)
def mC (T:List (Str×GT)) (K:Fg):CC→rZ
  | .none=>wO
  | .some t=>mT T K NoX t
end
def isStar:Expr→Bool
  | .Starred ..=>true
  | _=>false
def isSlice:Expr→Bool
  | .Slice ..=>true
  | _=>false
def cJ:Expr→Bool
  | .Call (.Name id _) [] [] _=>id != ("super" : Str)
  | _=>true
def isSet:Expr→Bool
  | .Set ..=>true
  | _=>false
def apL:BF→String
  | .len => "len"
  | .isi => "isinstance"
def alL:BF→Value
  | b => .builtin (apL b)
def a8G:BF→Bool
  | .len=>true
  | .isi=>true
def vG (S:SI):Bool:=(List.range S.gl.length).any fun k=>S.gv[k]? == some true&&match S.gl[k]? with
  | some (y,.bt n)=>y == ("range" : Str)&&n == "range"
  | _=>false
def apM (S:SI) (y:Str):Bool:=(List.range S.N.length).any fun i=>S.N[i]? == some y&&S.ce[i]? == some true
def a4N:List Str→Bool
  | []=>true
  | x :: r=>!r.contains x&&a4N r
def xJ:List Expr→Option (List Str)
  | []=>some []
  | .Name x _ :: r=>(xJ r).map (x :: ·)
  | _=>none
def xK (S:SI) (xs:List Str) (scope:Scope) (fl gv:List Bool):Bool :=
  scope.kind == .function&&scope.names.all (fun y=>y.2 != .cell&&(y.2 != .local || scope.names.lookup y.1 == some .local)&&(y.2 != .free || apM S y.1)) &&
  xs.all (fun x=>scope.names.lookup x == some .local&&!S.N.contains x&&x != ("__debug__" : Str)&&x != ("__classdict__" : Str))&&a4N xs &&
  S.N.all (fun y=>scope.names.lookup y != some .local) &&
  (List.range S.N.length).all (fun i=>fl[i]? != some true || (S.fl[i]? == some true&&match S.N[i]? with
    | some y=>scope.names.lookup y == some .free
    | none=>false)) &&
  (List.range S.gl.length).all (fun k=>gv[k]? != some true || match S.gl[k]? with
    | some (y,_)=>scope.names.lookup y == some .globalImplicit
    | none=>false)
def alM:D→Const→Bool
  | .int i,.int j=>i == j
  | .str s,.str t=>s == t
  | .bl b,.bool c=>b == c
  | .non,.none=>true
  | _,_=>false
def plainT:Expr→Bool
  | .UnaryOp .Not _ _=>false
  | .BoolOp ..=>false
  | .IfExp ..=>false
  | .Compare ..=>false
  | _=>true
def af7 (S:SI) (k:Nat) (x:Str):Bool:=match S.gl[k]? with
  | some (y,.con _)=>y == x
  | some (y,.cls _)=>y == x
  | some (y,.bt _)=>y == x
  | _=>false
def aa8 (S:SI) (k:Nat) (x:Str) (e:Bool):Bool:=match S.gl[k]? with
  | some (y,.fn _ _ qt)=>y == x&&(qt || S.calm)
  | some (y,.cls _)=>y == x
  | some (y,.bf b)=>y == x&&e&&(S.calm || a8G b)
  | some (y,.bt _)=>y == x&&e
  | some (y,.kl _ _ _)=>y == x&&S.calm
  | _=>false
def aB2:Expr→Option (Expr×Str×Bool)
  | .Call (.Attribute y n ap) [] [] cp=>some (y,n,ap.endLine == cp.line)
  | _=>none
def ax2:Expr→Option (Str×Expr)
  | .Call (.Name x _) [z] [] _=>some (x,z)
  | _=>none
def apO (S:SI) (k:Nat):Bool:=match S.gl[k]? with
  | some (_,.clo _ _)=>true
  | _=>false
def apP (S:SI) (k:Nat) (x:Str):Bool:=match S.gl[k]? with
  | some (y,.con (.tup _))=>y == x
  | _=>false
def zY:List Str→List (Option Expr)→Bool
  | [],[]=>true
  | k :: ks,some (.Constant (.str k') _ _) :: es=>k == k'&&zY ks es
  | _,_=>false
mutual
def kE (S:SI):CE→Expr→Bool
  | .fre i,.Name x _=>S.N[i]? == some x&&S.ce[i]? == some true&&x != ("__debug__" : Str)&&x != ("__classdict__" : Str)
  | .tix k e,.Call (.Attribute (.Name x _) n ap) [y] [] cp=>apP S k x&&S.gv[k]? == some true&&n == ("index" : Str)&&!isStar y&&ap.endLine == cp.line&&kE S e y
  | .repl e y z,.Call (.Attribute o n ap) [.Constant (.str y') _ _,.Constant (.str z') _ _] [] cp=>S.need&&n == ("replace" : Str)&&y' == y&&z' == z&&y != z&&cJ o&&ap.endLine == cp.line&&kE S e o
  | .aa6 ks es,.Dict keys values _=>zY ks keys&&lW S es values&&keys.length == values.length&&decide (keys≠[]∧keys.length≤15)
  | .callC i k e es,.Call (.Name x _) (y :: ys) [] _=>S.N[i]? == some x&&(S.fl[i]? == some true || (S.ce[i]? == some true&&x != ("__debug__" : Str)&&x != ("__classdict__" : Str)))&&S.calm&&apO S k&&!isStar y&&kE S e y&&lW S es ys
  | .var i,.Name x _=>S.N[i]? == some x&&S.fl[i]? == some true
  | .con d,.Constant c _ _=>alM d c
  | .glo k,.Name x _=>S.gv[k]? == some true&&af7 S k x
  | .neg a,.UnaryOp .USub e _=>kE S a e
  | .bin o a b,.BinOp x o' y _=>o == o'&&kE S a x&&kE S b y
  | .cmp o a b,.Compare x [o'] [y] _=>o == o'&&!behindInMarks o' y&&kE S a x&&kE S b y
  | .ajE es,.BoolOp .And xs _=>lW S es xs
  | .ifx c a b,.IfExp t x y _=>kT S c t&&kE S a x&&kE S b y
  | .tup es,.Tuple xs _ _=>lW S es xs
  | .lst es,.List xs _=>lW S es xs
  | .dct,.Dict [] [] _=>true
  | .ix a b,.Subscript x y _=>!isSlice y&&kE S a x&&kE S b y
  | .sl a lo hi,.Subscript x (.Slice l h none _) _=>kE S a x&&kO S lo l&&kO S hi h
  | .call k es,.Call (.Name x _) xs [] _=>lW S es xs&&S.gv[k]? == some true&&aa8 S k x (!xs.isEmpty)
  | .meth m o es,.Call (.Attribute y n ap) xs [] cp=>n == mkN m&&cJ y&&ap.endLine == cp.line&&decide (xs.length < 30)&&kE S o y&&lW S es xs
  | .aa7 n fl gv ci cc e,.ListComp elt [⟨.Tuple es _ _,iter,ifs,a⟩] scope _=>S.calm&&a == 0&&(match xJ es with
    | some xs=>xs.length == n&&xK S xs scope fl gv&&!isSet iter&&kI S true ci iter&&kC (S.cmp xs fl gv) cc ifs&&kE (S.cmp xs fl gv) e elt
    | none=>false)
  | .din neg a b,.Compare x [o'] [y] _=>o' == (if neg then CmpOp.NotIn else CmpOp.In)&&!behindInMarks o' y&&kE S a x&&kE S b y
  | .dgt o e f,.Call (.Attribute y n ap) [x,z] [] cp=>n == ("get" : Str)&&cJ y&&ap.endLine == cp.line&&!isStar x&&!isStar z&&kE S o y&&kE S e x&&kE S f z
  | .ajF,.Dict [] [] _=>true
  | .dm m o e es,.Call (.Attribute y n ap) (x :: xs) [] cp=>n == dmN m&&cJ y&&ap.endLine == cp.line&&decide ((x :: xs).length < 30)&&kE S o y&&!isStar x&&kE S e x&&lW S es xs
  | _,_=>false
def lW (S:SI):yJ→List Expr→Bool
  | .nil,[]=>true
  | .cons e r,x :: xs=>!isStar x&&kE S e x&&lW S r xs
  | _,_=>false
def kT (S:SI):CT→Expr→Bool
  | .cmp o a b,.Compare x [o'] [y] _=>o == o'&&!behindInMarks o' y&&kE S a x&&kE S b y
  | .not t,.UnaryOp .Not e _=>kT S t e
  | .and ts,.BoolOp .And xs _=>kTs S ts xs
  | .or ts,.BoolOp .Or xs _=>kTs S ts xs
  | .din neg a b,.Compare x [o'] [y] _=>o' == (if neg then CmpOp.NotIn else CmpOp.In)&&!behindInMarks o' y&&kE S a x&&kE S b y
  | .val e,x=>plainT x&&kE S e x
  | _,_=>false
def kTs (S:SI):CTs→List Expr→Bool
  | .nil,[]=>true
  | .cons e r,x :: xs=>kT S e x&&kTs S r xs
  | _,_=>false
def kO (S:SI):CO→Option Expr→Bool
  | .none,none=>true
  | .some e,some x=>kE S e x
  | _,_=>false
def kI (S:SI) (tt:Bool):CI→Expr→Bool
  | .any e,x=>kE S e x
  | .a6Q e,.Call (.Name r _) [y] [] _=>r == ("range" : Str)&&vG S&&!isStar y&&kE S e y
  | _,_=>false
def kC (S:SI):CC→List Expr→Bool
  | .none,[]=>true
  | .some t,[x]=>kT S t x
  | _,_=>false
end
end L4
namespace L4
open PySem PySem.Spec PyProof.Rows L2
theorem aV {e:Expr} {es:List Expr} {env:Env} (h:isStar e=false):starEach (e :: es) env=(false,eval e env) :: starEach es env:=by
  cases e <;> first | rfl | (exact absurd (show true=false from h) (by decide))
theorem jW {S:SI} {env:Env} {pos:Pos}:∀ {cs:yJ} {xs:List Expr},lW S cs xs=true→(backTo pos (starEach xs env)).any (·.1)=false
  | .nil,[],_=>rfl
  | .nil,_ :: _,h=>absurd (show false=true from h) (by decide)
  | .cons _ _,[],h=>absurd (show false=true from h) (by decide)
  | .cons e r,x :: xs,h=>by
    have h':(!isStar x&&kE S e x&&lW S r xs)=true:=h
    simp only [Bool.and_eq_true,Bool.not_eq_true'] at h'
    rw [aV h'.1.1]
    show (false || (backTo pos (starEach xs env)).any (·.1))=false
    rw [jW h'.2];rfl
theorem bW {o:Expr} {n:Str} {env:Env} (h:cJ o=true):attributeBase o n env (eval o env)=eval o env:=by
  cases o with
  | Call f args kws pos =>
    cases f with
    | Name id p =>
      cases args with
      | nil =>
        cases kws with
        | nil =>
          have h':(id != ("super" : Str))=true:=h
          unfold attributeBase
          simp only [h',Bool.true_or,if_true]
        | cons _ _=>rfl
      | cons _ _=>cases kws <;> rfl
    | _=>rfl
  | _=>rfl
abbrev BMv:List Value:=[.type "ValueError",.type "Exception",.type "BaseException",.type "object"]
def apQ (X:Cx) (cm:Bool) (x:Str):GT→Prop
  | .con d=>∃ u v,X.mg x=some u∧RelV v u∧∀ H,RD X.K H d v
  | .cls a=>X.mg x=some (.ref a)∧PySem.W.excIn X.K a BMv "ValueError.__new__" = true
  | .fn sp n qt=>(qt=true∨cm=true)→∃ k f fd ps,bY qt X.prog X.w X.K X.mg X.base (iJ X.prog X.w) k f fd ps (cO X.K sp)∧bQ qt k X.A∧X.mg x=some (.ref f)∧PySem.W.keepIn X.K (.ref f)=true∧Binds X.K fd ps []
  | .bf b=>X.mg x=none∧bootBuiltins x=some (alL b)
  | .bt n=>X.mg x=none∧bootBuiltins x=some (.type n)
  | .kl C sp dd=>cm=true→∃ k f fd ps ds uJ,Mk X.K C f∧bY false X.prog X.w X.K X.mg X.base (iJ X.prog X.w) k f fd ps (cO X.K sp)∧bQ false (k+1) X.A∧X.mg x=some (.ref C)∧Binds X.K fd ps ds∧Vals uJ ds∧∀ H,bF X.K H dd uJ
  | .me C m sp dd=>cm=true→∃ k f fd ps ds uJ,Cls X.K C∧Meth X.K C m f∧bY false X.prog X.w X.K X.mg X.base (iJ X.prog X.w) k f fd ps (cO X.K sp)∧bQ false k X.A∧Binds X.K fd ps ds∧Vals uJ ds∧∀ H,bF X.K H dd uJ
  | .fl C f=>Cls X.K C∧ad2 X.K C f
  | .clo c sp=>cm=true→∃ k,qU false X.prog X.w X.K X.mg X.base k c sp∧bQ false k X.A
  | .fnP sp n=>cm=true→∃ k f fd ps,a6M false X.prog X.w X.K X.mg X.base (iJ X.prog X.w) k f fd ps (cO X.K sp)∧bQ false k X.A∧X.mg x=some (.ref f)∧PySem.W.keepIn X.K (.ref f)=true∧Binds X.K fd ps []
structure jX (X:Cx) (S:SI) (ex:aQ→aY):Prop where
  N:X.N=S.N
  nd:X.N.Nodup
  vis:∀ (i:Nat) (x:Str),S.N[i]?=some x→S.fl[i]?=some true→Vis X.env.scope x∧(x == ("__debug__" : Str))=false∧(x == ("__classdict__" : Str))=false
  ce:∀ (i:Nat) (x:Str),S.N[i]?=some x→S.ce[i]?=some true→X.env.kindOf x=some .cell∨X.env.kindOf x=some .free
  gm:∀ (k:Nat) (x:Str) (g:GT),S.gl[k]?=some (x,g)→(S.gv[k]?=some true→Gl X x)∧(x == ("__debug__" : Str))=false∧x ≠ "__name__" ∧ apQ X S.calm x g
  hu:X.A.units+64 < cLine
  cm:S.calm=true→X.calm=true
  cat:Cat X ex
  nk:S.need=true→X.need=true
theorem jX.gl {X:Cx} {S:SI} {ex:aQ→aY} (Q:jX X S ex) (k:Nat) (x:Str) (g:GT) (h:S.gl[k]?=some (x,g)) (hv:S.gv[k]?=some true):Gl X x∧(x == ("__debug__" : Str))=false∧x ≠ "__name__" ∧ apQ X S.calm x g :=
  ⟨(Q.gm k x g h).1 hv,(Q.gm k x g h).2⟩
section
variable {X:Cx} {S:SI} {ex:aQ→aY}
theorem af8 {e:Expr}:bV X e a8F:=fun _ _ _ _ _ _ ⟨_,_,_,_,_,z,_⟩=>z.elim
theorem ajG {o:Operator}:zG X (binaryOp o) (alK o):=by
  have no:∀ {f:Value→Value→Sem Value},zG X f (fun _ _ _ _=>False):=fun {f}=>⟨fun _ _ _ _=>False,fun _ _ _ _ _ _ _ _ _ _ _ _ h=>h.elim,fun _ _ _ _ _ _ _ _ _ _ _ h _=>h.elim⟩
  exact match o with
  | .Add=>atY
  | .Sub=>atP
  | .Mult=>atQ
  | .FloorDiv=>anP
  | .Mod=>atR
  | .Pow=>atU
  | .MatMult=>no
  | .Div=>no
  | .LShift=>no
  | .RShift=>no
  | .BitOr=>no
  | .BitXor=>no
  | .BitAnd=>no
theorem aa9 {o:CmpOp} (hu:X.A.units+64 < cLine):qC X (compareOp o) (af5 o):=by
  exact match o with
  | .Eq=>ayO hu
  | .NotEq=>ayP hu
  | .Lt=>ay9
  | .LtE=>ayC
  | .Gt=>ayA
  | .GtE=>ayB
  | .Is=>ayD
  | .IsNot=>anR
  | .In=>ayS hu
  | .NotIn=>aiL hu
theorem av9 {n:String}:dB X (.type n) (apE n):=by
  unfold apE
  split
  · rename_i h;subst h;exact auA
  · split
    · rename_i h;subst h;exact aoB
    · split
      · rename_i h;subst h;exact auW
      · split
        · rename_i h;subst h;exact aj6
        · exact fun _ _ _ _ _ _ _ _ _ _ _ _ _ _ h _=>h.elim
theorem af9 {qt:Bool} {k:Nat} {f:Addr} {fd:FuncData} {ps:List Str} {sp:jT} {x:Str} {p pos:Pos} (F:bY qt X.prog X.w X.K X.mg X.base (iJ X.prog X.w) k f fd ps (cO X.K sp)) (hr:bQ qt k X.A) (hg:Gl X x) (hm:X.mg x=some (.ref f)) (hk:PySem.W.keepIn X.K (.ref f)=true) (hb:Binds X.K fd ps []) (hx:Cat X ex)
    (hdb:(x == ("__debug__" : Str))=false):bV X (.Call (.Name x p) [] [] pos) (bZ sp ex aK):=by
  intro pins s σ H Q I h _tk
  obtain ⟨ρ,G,R,sr,g,q,kk⟩:=h
  refine wpAny_Call_Name_kw (iZ I hg hm ?_ hdb)
  refine PySem.W.callWith_K0 I.yP hk ?_
  exact a9P (E:=zJ X.K (ex ρ)) F hr hb (fun e s' c=>hx.a9O pins σ H s ρ e s' I sr c) I .nil (Q:=fun v H'=>∃ d G',RD X.K H' d v∧HR X.K H' G'∧R d G') ⟨[],G,R,ex ρ,.nil,g,q,fun v H' d G' r2 g2 q2=>⟨d,G',r2,g2,q2⟩,fun C H' G' g' q'=>⟨C,G',rfl,g',q'⟩⟩ fun v H' t2 ⟨d,G',r2,g2,q2⟩=>kk v H' d G' t2 r2 g2 q2
theorem jY {xs:List Expr} {cs:yJ} {cp:Pos} (h:lW S cs xs=true) (hl:xs.length < 30):((backTo cp (starEach xs X.env)).all (fun x=>!x.1)&&(backToKw cp (keywordEach [] X.env)).all (fun x=>x.1.isSome)
      && decide (xs.length+([]:List Keyword).length+(if ([]:List Keyword).isEmpty then 0 else 1) < 30))=true:=by
  have h1:(backTo cp (starEach xs X.env)).all (fun x=>!x.1)=true:=by
    rw [List.all_eq_true]
    intro y hy
    have:=jW (env:=X.env) (pos:=cp) h
    rw [List.any_eq_false] at this
    have:=this y hy
    simpa using this
  have h2:(decide (xs.length+([]:List Keyword).length+(if ([]:List Keyword).isEmpty then 0 else 1) < 30))=true:=decide_eq_true (by simpa using hl)
  rw [h1,h2];rfl
end
end L4
namespace L4
open PySem PySem.Spec PyProof.Rows L2
section
variable {X:Cx} {S:SI} {ex:aQ→aY}
theorem apR {d:D} {c:Const} {j:Nat} {pos:Pos} (h:alM d c=true):bV X (.Constant c j pos) (bA d):=by
  cases d <;> cases c <;> first | exact absurd (show false=true from h) (by decide) | skip
  · exact at9
  · have:=beq_iff_eq.mp h;subst this;exact ay5
  · have:=beq_iff_eq.mp h;subst this;exact at8
  · have:=beq_iff_eq.mp h;subst this;exact atA
theorem apS {e:Expr} (h:plainT e=true):∀ whole,isTrue e X.env whole=(do let v ← whole;standAt e.pos;holding [v] (truthy v)):=by
  cases e with
  | UnaryOp op x p=>cases op <;> first | exact absurd (show false=true from h) (by decide) | (intro _;rfl)
  | BoolOp _ _ _=>exact absurd (show false=true from h) (by decide)
  | IfExp _ _ _ _=>exact absurd (show false=true from h) (by decide)
  | Compare _ _ _ _=>exact absurd (show false=true from h) (by decide)
  | _=>intro _;rfl
theorem avA {e:Expr} (h:isSlice e=false):a3N e:=by
  cases e with
  | Slice _ _ _ _=>exact absurd (show true=false from h) (by decide)
  | _=>intro _ _;rfl
theorem avB (Q:jX X S ex) {k:Nat} {x:Str} {b:BF} (hk:S.gl[k]?=some (x,.bf b)) (hv:S.gv[k]?=some true) (hc:(S.calm || a8G b)=true) {e:Expr} {es:List Expr} {t:lO} {p pos:Pos} (ha:PA3 X (e :: es) t) (he:isStar e=false) (hp:(backTo pos (starEach es X.env)).any (·.1)=false):bV X (.Call (.Name x p) (e :: es) [] pos) (qY (av6 X.K b) t):=by
  obtain ⟨h1,h2,h3,h4⟩:=Q.gl _ _ _ hk hv
  have cm:a8G b=false→X.calm=true:=fun z=>by
    rw [z,Bool.or_false] at hc
    exact Q.cm hc
  cases b with
  | len=>exact a9R au9 h1 h4.1 h4.2 ha h3 h2 (aV he) hp
  | isi=>exact a9R a4A h1 h4.1 h4.2 ha h3 h2 (aV he) hp
theorem ajH {m:MK} {o:Expr} {to:bL} {ap cp:Pos} (ho:bV X o to) (hb:cJ o=true) (hl:(ap.endLine == cp.line)=true):bV X (.Call (.Attribute o (mkN m) ap) [] [] cp) (aoH (mkT m) (mkR m) to):=by
  cases m with
  | append=>exact zN PySem.F.plainAttrs_list PySem.F.slot_list_append PySem.F.type_list_append a69 ho (bW hb) hl
  | join=>exact zN PySem.F.plainAttrs_str PySem.F.slot_str_join PySem.F.type_str_join aeD ho (bW hb) hl
  | split=>exact zN PySem.F.plainAttrs_str PySem.F.slot_str_split PySem.F.type_str_split m_split ho (bW hb) hl
  | starts=>exact zN PySem.F.plainAttrs_str PySem.F.slot_str_startswith PySem.F.type_str_startswith a6L ho (bW hb) hl
  | count=>exact zN PySem.F.plainAttrs_list PySem.F.slot_list_count PySem.F.type_list_count aa2 ho (bW hb) hl
  | abZ=>exact zN PySem.F.plainAttrs_list PySem.F.slot_list_pop PySem.F.type_list_pop aeU ho (bW hb) hl
  | insert=>exact zN PySem.F.plainAttrs_list PySem.F.slot_list_insert PySem.F.type_list_insert a6O ho (bW hb) hl
theorem afA {m:MK} {o e:Expr} {es:List Expr} {to:bL} {t:lO} {cs:yJ} {ap cp:Pos} (ho:bV X o to) (ha:PA3 X (e :: es) t) (hb:cJ o=true) (hl:(ap.endLine == cp.line)=true) (hk:lW S cs (e :: es)=true) (hn:(e :: es).length < 30) :
    bV X (.Call (.Attribute o (mkN m) ap) (e :: es) [] cp) (tM3 (mkT m) (mkR m) to t):=by
  have he:isStar e=false:=by
    cases cs with
    | nil=>exact absurd (show false=true from hk) (by decide)
    | cons c r =>
      have h':(!isStar e&&kE S c e&&lW S r es)=true:=hk
      simp only [Bool.and_eq_true,Bool.not_eq_true'] at h'
      exact h'.1.1
  have hp:(backTo cp (starEach es X.env)).any (·.1)=false:=by
    have:=jW (env:=X.env) (pos:=cp) hk
    rw [aV he] at this
    have z:(false || (backTo cp (starEach es X.env)).any (·.1))=false:=this
    simpa using z
  cases m with
  | append=>exact a84 PySem.F.plainAttrs_list PySem.F.slot_list_append PySem.F.type_list_append a69 ho ha (bW hb) (jY hk hn) hl (aV he) hp
  | join=>exact a84 PySem.F.plainAttrs_str PySem.F.slot_str_join PySem.F.type_str_join aeD ho ha (bW hb) (jY hk hn) hl (aV he) hp
  | split=>exact a84 PySem.F.plainAttrs_str PySem.F.slot_str_split PySem.F.type_str_split m_split ho ha (bW hb) (jY hk hn) hl (aV he) hp
  | starts=>exact a84 PySem.F.plainAttrs_str PySem.F.slot_str_startswith PySem.F.type_str_startswith a6L ho ha (bW hb) (jY hk hn) hl (aV he) hp
  | count=>exact a84 PySem.F.plainAttrs_list PySem.F.slot_list_count PySem.F.type_list_count aa2 ho ha (bW hb) (jY hk hn) hl (aV he) hp
  | abZ=>exact a84 PySem.F.plainAttrs_list PySem.F.slot_list_pop PySem.F.type_list_pop aeU ho ha (bW hb) (jY hk hn) hl (aV he) hp
  | insert=>exact a84 PySem.F.plainAttrs_list PySem.F.slot_list_insert PySem.F.type_list_insert a6O ho ha (bW hb) (jY hk hn) hl (aV he) hp
theorem avC {m:DM} {o e:Expr} {es:List Expr} {to:bL} {t:lO} {cs:yJ} {ap cp:Pos} (hu:X.A.units+64 < cLine) (ho:bV X o to) (ha:PA3 X (e :: es) t) (hb:cJ o=true) (hl:(ap.endLine == cp.line)=true) (hk:lW S cs (e :: es)=true) (hn:(e :: es).length < 30) :
    bV X (.Call (.Attribute o (dmN m) ap) (e :: es) [] cp) (aeO (dmR m) to t):=by
  have he:isStar e=false:=by
    cases cs with
    | nil=>exact absurd (show false=true from hk) (by decide)
    | cons c r =>
      have h':(!isStar e&&kE S c e&&lW S r es)=true:=hk
      simp only [Bool.and_eq_true,Bool.not_eq_true'] at h'
      exact h'.1.1
  have hp:(backTo cp (starEach es X.env)).any (·.1)=false:=by
    have:=jW (env:=X.env) (pos:=cp) hk
    rw [aV he] at this
    have z:(false || (backTo cp (starEach es X.env)).any (·.1))=false:=this
    simpa using z
  cases m with
  | sdf=>exact ap6 PySem.F.slot_dict_setdefault PySem.F.type_dict_setdefault (auR hu) ho ha (bW hb) (jY hk hn) hl (aV he) hp
  | sdk=>exact ap6 PySem.F.slot_dict_setdefault PySem.F.type_dict_setdefault (av4 hu) ho ha (bW hb) (jY hk hn) hl (aV he) hp
  | pop=>exact ap6 PySem.F.slot_dict_pop PySem.F.type_dict_pop (ap7 hu) ho ha (bW hb) (jY hk hn) hl (aV he) hp
local macro_rules | `(tactic| walk_at "off")=>`(tactic| exact absurd (show false=true from by assumption) (by decide))
theorem apT (Q:jX X S ex) {k:Nat} {x:Str} {p:Pos} (h:kE S (.glo k) (.Name x p)=true):bV X (.Name x p) (apF S.gl k):=by
  have h':(S.gv[k]? == some true&&af7 S k x)=true:=h
  rw [Bool.and_eq_true] at h'
  obtain ⟨hv,h⟩:=h'
  have hv:=beq_iff_eq.mp hv
  unfold af7 at h
  unfold apF
  split at h
  · rename_i y d hk
    have:=beq_iff_eq.mp h;subst this
    obtain ⟨h1,h2,h3,u,v,h4,h5,h6⟩:=Q.gl _ _ _ hk hv
    exact adL h1 h4 h5 h6 h2
  · rename_i y d hk
    have:=beq_iff_eq.mp h;subst this
    obtain ⟨h1,h2,h3,h4⟩:=Q.gl _ _ _ hk hv
    exact adL h1 h4.1 (v := .ref d) rfl (fun _ => .ref _) h2
  · rename_i y d hk
    have:=beq_iff_eq.mp h;subst this
    obtain ⟨h1,h2,h3,h4⟩:=Q.gl _ _ _ hk hv
    exact anL h1 h4.1 h4.2 h3 h2
  · exact absurd h (by decide)
theorem ajI (Q:jX X S ex) {k:Nat} {es:yJ} {x:Str} {p pos:Pos} {xs:List Expr} (ha:PA3 X xs (mA S.gl X.K ex es)) (hk:lW S es xs=true) (hv:S.gv[k]?=some true) (h:aa8 S k x (!xs.isEmpty)=true):bV X (.Call (.Name x p) xs [] pos) (apG S.gl X.K ex k (mA S.gl X.K ex es)):=by
  unfold aa8 at h
  unfold apG
  have one:∀ {e:Expr} {r:List Expr},xs=e :: r→isStar e=false∧(backTo pos (starEach r X.env)).any (·.1)=false:=fun {e r} z=>by
    subst z
    cases es with
    | nil=>exact absurd (show false=true from hk) (by decide)
    | cons c cr =>
      have h':(!isStar e&&kE S c e&&lW S cr r)=true:=hk
      simp only [Bool.and_eq_true,Bool.not_eq_true'] at h'
      exact ⟨h'.1.1,jW h'.2⟩
  split at h
  · rename_i y sp n qt hg
    rw [Bool.and_eq_true] at h
    obtain ⟨h,hc⟩:=h
    have:=beq_iff_eq.mp h;subst this
    obtain ⟨h1,h2,h3,h4⟩:=Q.gl _ _ _ hg hv
    obtain ⟨j,f,fd,ps,F,hr,hm,hkp,hb⟩:=h4 (Bool.or_eq_true _ _ |>.mp hc)
    cases xs with
    | nil =>
      cases es with
      | nil=>exact af9 F hr h1 hm hkp hb Q.cat h2
      | cons _ _=>exact absurd (show false=true from hk) (by decide)
    | cons e r=>exact aiE F hr h1 hm hkp hb Q.cat ha h2 (aV (one rfl).1) (one rfl).2
  · rename_i y a hg
    have:=beq_iff_eq.mp h;subst this
    obtain ⟨h1,h2,h3,h4,h5⟩:=Q.gl _ _ _ hg hv
    cases xs with
    | nil =>
      cases es with
      | nil=>exact aoY PySem.F.excBase_ValueError (by decide) PySem.F.excBase_ValueError h1 h4 h5 h2
      | cons _ _=>exact absurd (show false=true from hk) (by decide)
    | cons e r=>exact auO PySem.F.excBase_ValueError (by decide) PySem.F.excBase_ValueError h1 h4 h5 ha h2 (aV (one rfl).1) (one rfl).2
  · rename_i y b hg
    rw [Bool.and_eq_true,Bool.and_eq_true] at h
    obtain ⟨⟨h,hc⟩,hcm⟩:=h
    have:=beq_iff_eq.mp h;subst this
    cases xs with
    | nil=>exact absurd (show false=true from hc) (by decide)
    | cons e r=>exact avB Q hg hv hcm ha (one rfl).1 (one rfl).2
  · rename_i y n hg
    rw [Bool.and_eq_true] at h
    obtain ⟨h,hc⟩:=h
    have:=beq_iff_eq.mp h;subst this
    obtain ⟨h1,h2,h3,h4⟩:=Q.gl _ _ _ hg hv
    cases xs with
    | nil=>exact absurd (show false=true from hc) (by decide)
    | cons e r=>exact adW av9 h1 h4.1 h4.2 ha h3 h2 (aV (one rfl).1) (one rfl).2
  · rename_i y C sp dd hg
    rw [Bool.and_eq_true] at h
    obtain ⟨h,hc⟩:=h
    have:=beq_iff_eq.mp h;subst this
    obtain ⟨h1,h2,h3,h4⟩:=Q.gl _ _ _ hg hv
    obtain ⟨kk,f,fd,ps,ds,uJ,q1,q2,q3,q4,q5,q6,q7⟩:=h4 hc
    cases xs with
    | nil =>
      cases es with
      | nil=>exact aeG q1 q2 q3 h1 q4 q5 q6 q7 Q.cat h2
      | cons _ _=>exact absurd (show false=true from hk) (by decide)
    | cons e r=>exact aiZ q1 q2 q3 h1 q4 q5 q6 q7 Q.cat ha h2 (aV (one rfl).1) (one rfl).2
  · exact absurd h (by decide)
theorem jZ {names:List (Str×NameKind)} {env:Env} {y:Str} {k:NameKind} (h:names.lookup y=some k) :
    (names.map fun (n,k)=>if (k == .free&&env.scope.kind == .function&&env.kindOf n == some .cell) then (n,.cell) else (n,k)).lookup y=some k ∨
    (k = .free∧(names.map fun (n,k)=>if (k == .free&&env.scope.kind == .function&&env.kindOf n == some .cell) then (n,.cell) else (n,k)).lookup y=some .cell):=by
  induction names with
  | nil=>simp at h
  | cons p r ih =>
    obtain ⟨n,kd⟩:=p
    rw [List.lookup_cons] at h
    show List.lookup y ((if (kd == .free&&env.scope.kind == .function&&env.kindOf n == some .cell)=true then (n,NameKind.cell) else (n,kd)) :: _)=some k∨(k = .free∧List.lookup y ((if (kd == .free&&env.scope.kind == .function&&env.kindOf n == some .cell)=true then (n,NameKind.cell) else (n,kd)) :: _)=some .cell)
    cases hx:y == n with
    | true =>
      rw [hx] at h
      have hkd:kd=k:=by simpa using h
      subst hkd
      by_cases hc:(kd == .free&&env.scope.kind == .function&&env.kindOf n == some .cell)=true
      · rw [if_pos hc,List.lookup_cons,hx]
        refine .inr ⟨?_,rfl⟩
        simp only [Bool.and_eq_true,beq_iff_eq] at hc
        exact hc.1.1
      · rw [if_neg hc,List.lookup_cons,hx]
        exact .inl rfl
    | false =>
      rw [hx] at h
      have z:=ih h
      by_cases hc:(kd == .free&&env.scope.kind == .function&&env.kindOf n == some .cell)=true
      · rw [if_pos hc,List.lookup_cons,hx]
        exact z
      · rw [if_neg hc,List.lookup_cons,hx]
        exact z
theorem a2Y:∀ {xs:List Str},a4N xs=true→xs.Nodup
  | [],_=>List.nodup_nil
  | x :: r,h=>by
    have h':(!r.contains x&&a4N r)=true:=h
    rw [Bool.and_eq_true] at h'
    exact List.nodup_cons.mpr ⟨by simpa using h'.1,a2Y h'.2⟩
theorem xM {xs:List Str} {scope:Scope} {fl gv:List Bool} (h:xK S xs scope fl gv=true) :
    scope.kind = .function∧(∀ y∈scope.names,y.2 ≠ .cell∧(y.2 = .local→scope.names.lookup y.1=some .local)∧(y.2 = .free→apM S y.1=true)) ∧
    (∀ x∈xs,scope.names.lookup x=some .local∧x ∉ S.N∧(x == ("__debug__" : Str))=false∧(x == ("__classdict__" : Str))=false)∧xs.Nodup∧(∀ y∈S.N,scope.names.lookup y≠some .local) ∧
    (∀ (i:Nat) (y:Str),S.N[i]?=some y→fl[i]?=some true→S.fl[i]?=some true∧scope.names.lookup y=some .free) ∧
    ∀ (k:Nat) (y:Str) (g:GT),S.gl[k]?=some (y,g)→gv[k]?=some true→scope.names.lookup y=some .globalImplicit:=by
  unfold xK at h
  simp only [Bool.and_eq_true] at h
  obtain ⟨⟨⟨⟨⟨⟨h1,h2⟩,h3⟩,h4⟩,h5⟩,h8⟩,h9⟩:=h
  refine ⟨beq_iff_eq.mp h1,fun y hy=>?_,fun x hx=>?_,a2Y h4,fun y hy=>?_,fun i y e1 e2=>?_,fun k y g e1 e2=>?_⟩
  · have z:=List.all_eq_true.mp h2 y hy
    simp only [Bool.and_eq_true,bne_iff_ne,ne_eq,Bool.or_eq_true,beq_iff_eq] at z
    obtain ⟨⟨z1,z2⟩,z3⟩:=z
    exact ⟨z1,fun e=>z2.resolve_left fun n=>n e,fun e=>z3.resolve_left fun n=>n e⟩
  · have z:=List.all_eq_true.mp h3 x hx
    simp only [Bool.and_eq_true] at z
    obtain ⟨⟨⟨z1,z2⟩,z3⟩,z4⟩:=z
    exact ⟨beq_iff_eq.mp z1,by simpa using z2,by simpa using z3,by simpa using z4⟩
  · have z:=List.all_eq_true.mp h5 y hy
    simpa using z
  · have z:=List.all_eq_true.mp h8 i (List.mem_range.mpr (List.getElem?_eq_some_iff.mp e1).1)
    rw [e2,e1] at z
    simpa using z
  · have z:=List.all_eq_true.mp h9 k (List.mem_range.mpr (List.getElem?_eq_some_iff.mp e1).1)
    rw [e2,e1] at z
    simpa using z
theorem nO (Q:jX X S ex) {xs:List Str} {scope:Scope} {fl gv:List Bool} (h:xK S xs scope fl gv=true):oA X xs scope:=by
  obtain ⟨h1,h2,h3,h4,h5,h8,h9⟩:=xM h
  refine ⟨h1,fun y hy=>(h2 y hy).1,fun y hy=>(h2 y hy).2.1,fun x hx=>(h3 x hx).1,fun y hy e=>?_,fun x hx=>by rw [Q.N];exact (h3 x hx).2.1,h4,by rw [Q.N];exact h5⟩
  have z:=(h2 y hy).2.2 e
  unfold apM at z
  obtain ⟨i,_,z⟩:=List.any_eq_true.mp z
  rw [Bool.and_eq_true] at z
  exact Q.ce i y.1 (beq_iff_eq.mp z.1) (beq_iff_eq.mp z.2)
theorem apU {X:Cx}:Cat X NoX:=⟨fun _ _ _ _ _ _ _ _ _ ⟨_,_,_,_,_,_,_,_,_,_,_,_,z⟩=>by obtain ⟨_,_,_,_,z⟩:=z;exact z.elim⟩
theorem a2Z {α:Type} {xs ys:List α} {i:Nat} {y:α} (h:(xs++ys)[i]?=some y):(i < xs.length∧y∈xs)∨∃ j,i=xs.length+j∧ys[j]?=some y:=by
  by_cases c:i < xs.length
  · rw [List.getElem?_append_left c] at h
    exact .inl ⟨c,List.mem_of_getElem? h⟩
  · rw [List.getElem?_append_right (by omega)] at h
    exact .inr ⟨i - xs.length,by omega,h⟩
theorem aaA {α β:Type} {xs:List α} {f:α→β} {ys:List β} {j:Nat}:(xs.map f++ys)[xs.length+j]?=ys[j]?:=by
  rw [List.getElem?_append_right (by simp)]
  congr 1
  simp
theorem jX.cmp (Q:jX X S ex) {xs:List Str} {scope:Scope} {fl gv:List Bool} (h:xK S xs scope fl gv=true) (C:Addr) (s:Shared) (H:Hp) (fp:List Addr) (pins:List (Addr×Obj)):jX (f9 X xs scope C s H fp pins) (S.cmp xs fl gv) NoX:=by
  obtain ⟨h1,h2,h3,h4,h5,h8,h9⟩:=xM h
  refine ⟨by show xs++X.N=xs++S.N;rw [Q.N],a88 (N:=X.N) (nO Q h) Q.nd,fun i y e1 e2=>?_,fun i y e1 e2=>?_,fun k y g e1=>?_,Q.hu,Q.cm,apU,fun z=>nomatch z⟩
  · rcases a2Z e1 with ⟨_,m⟩ | ⟨j,rfl,e1'⟩
    · obtain ⟨a1,a2,a3,a4⟩:=h3 y m
      exact ⟨.inl (lookup_relabel_local a1),a3,a4⟩
    · have e2':fl[j]?=some true:=aaA.symm.trans e2
      obtain ⟨a1,a2⟩:=h8 j y e1' e2'
      obtain ⟨_,b2,b3⟩:=Q.vis j y e1' a1
      refine ⟨?_,b2,b3⟩
      rcases jZ (env:=X.env) a2 with z | ⟨_,z⟩
      · exact .inr (.inr z)
      · exact .inr (.inl z)
  · rcases a2Z e1 with ⟨c,m⟩ | ⟨j,rfl,e1'⟩
    · have e2':(xs.map (fun _=>false)++fl)[i]?=some true:=e2
      rw [List.getElem?_append_left (by simpa using c)] at e2'
      simp at e2'
    · have e2':fl[j]?=some true:=aaA.symm.trans e2
      obtain ⟨a1,a2⟩:=h8 j y e1' e2'
      rcases jZ (env:=X.env) a2 with z | ⟨_,z⟩
      · exact .inr z
      · exact .inl z
  · obtain ⟨b1,b2,b3,b4⟩:=Q.gm k y g e1
    refine ⟨fun e2=>?_,b2,b3,?_⟩
    · rcases jZ (env:=X.env) (h9 k y g e1 e2) with z | ⟨z,_⟩
      · exact z
      · cases z
    · cases g <;> exact b4
theorem a6R:∀ {es:List Expr} {xs:List Str},xJ es=some xs→Two (fun e x=>∃ p,e=Expr.Name x p) es xs
  | [],xs,h=>by
    have:xs=[]:=by simpa [xJ] using h.symm
    subst this;exact .nil
  | e :: es,xs,h=>by
    cases e with
    | Name x p =>
      have h':(xJ es).map (x :: ·)=some xs:=h
      cases q:xJ es with
      | none=>rw [q] at h';cases h'
      | some r =>
        rw [q] at h'
        have:xs=x :: r:=by simpa using h'.symm
        subst this
        exact .cons ⟨p,rfl⟩ (a6R q)
    | _=>exact absurd (show (none:Option (List Str))=some xs from h) (fun z=>nomatch z)
theorem a6S (Q:jX X S ex) (h:vG S=true):Gl X "range" ∧ X.mg "range" = none:=by
  unfold vG at h
  obtain ⟨k,_,h⟩:=List.any_eq_true.mp h
  rw [Bool.and_eq_true] at h
  obtain ⟨hv,h⟩:=h
  split at h
  · rename_i y n e
    rw [Bool.and_eq_true] at h
    have:=beq_iff_eq.mp h.1
    subst this
    obtain ⟨g1,g2,g3,g4⟩:=Q.gl _ _ _ e (beq_iff_eq.mp hv)
    exact ⟨g1,g4.1⟩
  · exact absurd h (by decide)
theorem afB {neg:Bool} {o:CmpOp} (hu:X.A.units+64 < cLine) (h:(o == (if neg then CmpOp.NotIn else CmpOp.In))=true):qC X (compareOp o) (apH neg):=by
  have:=beq_iff_eq.mp h
  subst this
  cases neg with
  | true=>exact ap2 hu
  | false=>exact auQ hu
theorem afC {e:Expr} {env:Env} (h:isSet e=false):∀ x,foldedSetIterable e env x=pure x:=by
  cases e <;> first | (intro _;rfl) | exact absurd (show true=false from h) (by decide)
end
end L4
namespace L4
open PySem PySem.Spec PyProof.Rows L2
theorem aR {P:Prop} (h:false=true):P:=absurd h (by decide)
theorem a6T:∀ {ks:List Str} {keys:List (Option Expr)},zY ks keys=true→keys.all (·.isSome)=true∧ks.length=keys.length
  | [],[],_=>⟨rfl,rfl⟩
  | [],_ :: _,h=>aR h
  | _ :: _,[],h=>aR h
  | k :: ks,none :: keys,h=>aR h
  | k :: ks,some e :: keys,h=>by
    cases e with
    | Constant c j p =>
      cases c with
      | str k' =>
        have h':(k == k'&&zY ks keys)=true:=h
        rw [Bool.and_eq_true] at h'
        have z:=a6T h'.2
        exact ⟨by simpa using z.1,by simp [z.2]⟩
      | _=>exact aR h
    | _=>exact aR h
mutual
theorem iQ {X:Cx} {S:SI} {ex:aQ→aY} (Q:jX X S ex):∀ (c:CE) (e:Expr),kE S c e=true→bV X e (mE S.gl X.K ex c)
  | .tix k c,e,h=>by
    cases e with
    | Call f xs kws p =>
      cases f with
      | Attribute o n ap =>
        match o,xs,kws,h with
        | .Name x q,[y],[],h =>
          have h':(apP S k x&&S.gv[k]? == some true&&n == ("index" : Str)&&!isStar y&&ap.endLine == p.line&&kE S c y)=true:=h
          simp only [Bool.and_eq_true,Bool.not_eq_true'] at h'
          obtain ⟨⟨⟨⟨⟨h1,h2⟩,h3⟩,h4⟩,h5⟩,h6⟩:=h'
          have e3:=beq_iff_eq.mp h3;subst e3
          unfold apP at h1
          split at h1
          · rename_i nm ds hg
            have e1:=beq_iff_eq.mp h1;subst e1
            obtain ⟨g1,g2,g3,u,v,g4,g5,g6⟩:=Q.gl _ _ _ hg (beq_iff_eq.mp h2)
            show bV X _ (apI S.gl k _)
            unfold apI
            rw [hg]
            exact auY g1 g4 g5 g6 (iQ Q c y h6) (aV h4) h5 g2
          · exact aR h1
      | _=>exact aR h
    | _=>exact aR h
  | .repl c y z,e,h=>by
    cases e with
    | Call f xs kws p =>
      cases f with
      | Attribute o n ap =>
        match xs,kws,h with
        | [.Constant (.str y') j1 p1,.Constant (.str z') j2 p2],[],h =>
          have h':(S.need&&n == ("replace" : Str)&&y' == y&&z' == z&&y != z&&cJ o&&ap.endLine == p.line&&kE S c o)=true:=h
          simp only [Bool.and_eq_true] at h'
          obtain ⟨⟨⟨⟨⟨⟨⟨h1,h2⟩,h3⟩,h4⟩,h5⟩,h6⟩,h7⟩,h8⟩:=h'
          have e2:=beq_iff_eq.mp h2;subst e2
          have e3:=beq_iff_eq.mp h3;subst e3
          have e4:=beq_iff_eq.mp h4;subst e4
          exact ap8 (Q.nk h1) (by simpa using h5) (iQ Q c o h8) (bW h6) h7
      | _=>exact aR h
    | _=>exact aR h
  | .aa6 ks es,e,h=>by
    cases e with
    | Dict keys values p =>
      have h':(zY ks keys&&lW S es values&&keys.length == values.length&&decide (keys≠[]∧keys.length≤15))=true:=h
      simp only [Bool.and_eq_true] at h'
      obtain ⟨⟨⟨h1,h2⟩,h3⟩,h4⟩:=h'
      have e3:=beq_iff_eq.mp h3
      have e4:=of_decide_eq_true h4
      have hk:=a6T h1
      exact ajA Q.hu hk.1 e3 e4.1 e4.2 (by rw [hk.2];exact e4.2) (okD Q es ks keys values h2 h1 e3)
    | _=>exact aR h
  | .fre i,e,h=>by
    cases e with
    | Name x p =>
      have h':(S.N[i]? == some x&&S.ce[i]? == some true&&x != ("__debug__" : Str)&&x != ("__classdict__" : Str))=true:=h
      simp only [Bool.and_eq_true] at h'
      have e1:=beq_iff_eq.mp h'.1.1.1
      have v:Vis X.env.scope x:=(Q.ce i x e1 (beq_iff_eq.mp h'.1.1.2)).elim (fun z => .inr (.inl z)) (fun z => .inr (.inr z))
      exact adK i (by rw [Q.N];exact e1) v (beq_eq_false_iff_ne.mpr (bne_iff_ne.mp h'.1.2)) (beq_eq_false_iff_ne.mpr (bne_iff_ne.mp h'.2))
    | _=>exact aR h
  | .callC i k c cs,e,h=>by
    cases e with
    | Call f xs kws p =>
      cases f with
      | Name x q =>
        cases xs with
        | nil=>exact aR h
        | cons y ys =>
        cases kws with
        | cons _ _=>exact aR h
        | nil =>
          have h':(S.N[i]? == some x&&(S.fl[i]? == some true || (S.ce[i]? == some true&&x != ("__debug__" : Str)&&x != ("__classdict__" : Str)))&&S.calm&&apO S k&&!isStar y&&kE S c y&&lW S cs ys)=true:=h
          rw [Bool.and_eq_true,Bool.and_eq_true,Bool.and_eq_true,Bool.and_eq_true,Bool.and_eq_true,Bool.and_eq_true,Bool.or_eq_true,Bool.not_eq_true'] at h'
          obtain ⟨⟨⟨⟨⟨⟨h1,h2⟩,h3⟩,h4⟩,h5⟩,h6⟩,h7⟩:=h'
          have e1:=beq_iff_eq.mp h1
          obtain ⟨v1,v2,v3⟩:Vis X.env.scope x∧(x == ("__debug__" : Str))=false∧(x == ("__classdict__" : Str))=false:=h2.elim (fun z=>Q.vis i x e1 (beq_iff_eq.mp z)) fun z=>by
            simp only [Bool.and_eq_true] at z
            exact ⟨(Q.ce i x e1 (beq_iff_eq.mp z.1.1)).elim (fun z => .inr (.inl z)) (fun z => .inr (.inr z)),beq_eq_false_iff_ne.mpr (bne_iff_ne.mp z.1.2),beq_eq_false_iff_ne.mpr (bne_iff_ne.mp z.2)⟩
          unfold apO at h4
          split at h4
          · rename_i nm cl sp hg
            obtain ⟨_,_,_,h8⟩:=Q.gm k _ _ hg
            obtain ⟨j,C,hr⟩:=h8 h3
            show bV X _ (mCC S.gl i k (aA (mE S.gl X.K ex c) (mA S.gl X.K ex cs)))
            unfold mCC
            rw [hg]
            exact aiI C hr (Q.cm h3) (by rw [Q.N];exact e1) v1 v2 v3 (o8 (iQ Q c y h6) (okA Q cs ys h7) (aV h5)) (aV h5) (jW h7)
          · exact aR h4
      | _=>exact aR h
    | _=>exact aR h
  | .var i,e,h=>by
    cases e with
    | Name x p =>
      have h':(S.N[i]? == some x&&S.fl[i]? == some true)=true:=h
      rw [Bool.and_eq_true] at h'
      have e1:=beq_iff_eq.mp h'.1
      obtain ⟨v1,v2,v3⟩:=Q.vis i x e1 (beq_iff_eq.mp h'.2)
      exact adK i (by rw [Q.N];exact e1) v1 v2 v3
    | _=>exact aR h
  | .con d,e,h=>by
    cases e with
    | Constant c j p=>exact apR h
    | _=>exact aR h
  | .glo k,e,h=>by
    cases e with
    | Name x p=>exact apT Q h
    | _=>exact aR h
  | .neg a,e,h=>by
    cases e with
    | UnaryOp op x p =>
      cases op with
      | USub=>exact au8 (iQ Q a x h)
      | _=>exact aR h
    | _=>exact aR h
  | .bin o a b,e,h=>by
    cases e with
    | BinOp x o' y p =>
      have h':(o == o'&&kE S a x&&kE S b y)=true:=h
      simp only [Bool.and_eq_true] at h'
      have:=beq_iff_eq.mp h'.1.1;subst this
      exact ay6 ajG (iQ Q a x h'.1.2) (iQ Q b y h'.2)
    | _=>exact aR h
  | .cmp o a b,e,h=>by
    cases e with
    | Compare x ops ys p =>
      match ops,ys,h with
      | [o'],[y],h =>
        have h':(o == o'&&!behindInMarks o' y&&kE S a x&&kE S b y)=true:=h
        simp only [Bool.and_eq_true,Bool.not_eq_true'] at h'
        have:=beq_iff_eq.mp h'.1.1.1;subst this
        exact al3 (aa9 Q.hu) (iQ Q a x h'.1.2) (iQ Q b y h'.2) h'.1.1.2
      | [],_,h=>exact aR h
      | _ :: _ :: _,_,h=>exact aR h
      | [_],[],h=>exact aR h
      | [_],_ :: _ :: _,h=>exact aR h
    | _=>exact aR h
  | .ajE es,e,h=>by
    cases e with
    | BoolOp op xs p =>
      cases op with
      | And=>exact alO Q es xs p h
      | Or=>exact aR h
    | _=>exact aR h
  | .ifx c a b,e,h=>by
    cases e with
    | IfExp t x y p =>
      have h':(kT S c t&&kE S a x&&kE S b y)=true:=h
      simp only [Bool.and_eq_true] at h'
      exact ai8 (okT Q c t h'.1.1) (iQ Q a x h'.1.2) (iQ Q b y h'.2)
    | _=>exact aR h
  | .tup es,e,h=>by
    cases e with
    | Tuple xs j p=>exact atL (okA Q es xs h)
    | _=>exact aR h
  | .lst es,e,h=>by
    cases e with
    | List xs p=>exact atM (okA Q es xs h)
    | _=>exact aR h
  | .dct,e,h=>by
    cases e with
    | Dict ks vs p =>
      match ks,vs,h with
      | [],[],_=>exact aoI
      | _ :: _,_,h=>exact aR h
      | [],_ :: _,h=>exact aR h
    | _=>exact aR h
  | .ix a b,e,h=>by
    cases e with
    | Subscript x y p =>
      have h':(!isSlice y&&kE S a x&&kE S b y)=true:=h
      simp only [Bool.and_eq_true,Bool.not_eq_true'] at h'
      exact ayE (iQ Q a x h'.1.2) (iQ Q b y h'.2) (avA h'.1.1)
    | _=>exact aR h
  | .sl a lo hi,e,h=>by
    cases e with
    | Subscript x y p =>
      cases y with
      | Slice l u st q =>
        cases st with
        | none =>
          have h':(kE S a x&&kO S lo l&&kO S hi u)=true:=h
          simp only [Bool.and_eq_true] at h'
          exact aiM (iQ Q a x h'.1.1) (okO Q lo l h'.1.2) (okO Q hi u h'.2)
        | some _=>exact aR h
      | _=>exact aR h
    | _=>exact aR h
  | .call k es,e,h=>by
    cases e with
    | Call f xs kws p =>
      cases f with
      | Name x q =>
        cases kws with
        | nil =>
          have h':(lW S es xs&&S.gv[k]? == some true&&aa8 S k x (!xs.isEmpty))=true:=h
          simp only [Bool.and_eq_true] at h'
          exact ajI Q (okA Q es xs h'.1.1) h'.1.1 (beq_iff_eq.mp h'.1.2) h'.2
        | cons _ _=>exact aR h
      | _=>exact aR h
    | _=>exact aR h
  | .meth m o .nil,e,h=>by
    cases e with
    | Call f xs kws p =>
      cases f with
      | Attribute y n ap =>
        cases kws with
        | nil =>
          have h':(n == mkN m&&cJ y&&ap.endLine == p.line&&decide (xs.length < 30)&&kE S o y&&lW S .nil xs)=true:=h
          simp only [Bool.and_eq_true] at h'
          obtain ⟨⟨⟨⟨⟨h1,h2⟩,h3⟩,h4⟩,h5⟩,h6⟩:=h'
          have:=beq_iff_eq.mp h1;subst this
          cases xs with
          | nil=>exact ajH (iQ Q o y h5) h2 h3
          | cons _ _=>exact aR h6
        | cons _ _=>exact aR h
      | _=>exact aR h
    | _=>exact aR h
  | .meth m o (.cons c r),e,h=>by
    cases e with
    | Call f xs kws p =>
      cases f with
      | Attribute y n ap =>
        cases kws with
        | nil =>
          have h':(n == mkN m&&cJ y&&ap.endLine == p.line&&decide (xs.length < 30)&&kE S o y&&lW S (.cons c r) xs)=true:=h
          simp only [Bool.and_eq_true] at h'
          obtain ⟨⟨⟨⟨⟨h1,h2⟩,h3⟩,h4⟩,h5⟩,h6⟩:=h'
          have:=beq_iff_eq.mp h1;subst this
          cases xs with
          | nil=>exact aR h6
          | cons x xs =>
            have h7:(!isStar x&&kE S c x&&lW S r xs)=true:=h6
            simp only [Bool.and_eq_true,Bool.not_eq_true'] at h7
            exact afA (iQ Q o y h5) (o8 (iQ Q c x h7.1.2) (okA Q r xs h7.2) (aV h7.1.1)) h2 h3 h6 (of_decide_eq_true h4)
        | cons _ _=>exact aR h
      | _=>exact aR h
    | _=>exact aR h
  | .aa7 n fl gv ci cc c,e,h=>by
    cases e with
    | ListComp elt gens scope p =>
      cases gens with
      | nil=>exact aR h
      | cons g gr =>
        cases gr with
        | cons _ _=>obtain ⟨tg,it,ifs,a⟩:=g;cases tg <;> exact aR h
        | nil =>
          obtain ⟨tg,it,ifs,a⟩:=g
          cases tg with
          | Tuple es k tp =>
            have h':(S.calm&&a == 0&&(match xJ es with
              | some xs=>xs.length == n&&xK S xs scope fl gv&&!isSet it&&kI S true ci it&&kC (S.cmp xs fl gv) cc ifs&&kE (S.cmp xs fl gv) c elt
              | none=>false))=true:=h
            rw [Bool.and_eq_true,Bool.and_eq_true] at h'
            obtain ⟨⟨h1,h2⟩,h'⟩:=h'
            have:=beq_iff_eq.mp h2;subst this
            cases q:xJ es with
            | none=>rw [q] at h';exact aR h'
            | some xs =>
              rw [q] at h'
              simp only [Bool.and_eq_true,Bool.not_eq_true'] at h'
              obtain ⟨⟨⟨⟨⟨h0,h3⟩,h4⟩,h5⟩,h6⟩,h7⟩:=h'
              have:=beq_iff_eq.mp h0;subst this
              exact a9W (nO Q h3) (fun C s H fp pins σ=>aoS (nO Q h3) Q.nd (Q.cm h1) (a6R q)) (fun d ds e=>(a9V e).2) (okI (tt:=true) Q (fun _=>⟨Q.cm h1,_,_,_,rfl⟩) ci it h5) (fun C s H fp pins=>okC (Q.cmp h3 C s H fp pins) cc ifs h6) (fun C s H fp pins=>iQ (Q.cmp h3 C s H fp pins) c elt h7) (afC h4)
          | _=>exact aR h
    | _=>exact aR h
  | .din neg a b,e,h=>by
    cases e with
    | Compare x ops ys p =>
      match ops,ys,h with
      | [o'],[y],h =>
        have h':(o' == (if neg then CmpOp.NotIn else CmpOp.In)&&!behindInMarks o' y&&kE S a x&&kE S b y)=true:=h
        simp only [Bool.and_eq_true,Bool.not_eq_true'] at h'
        exact al3 (afB Q.hu h'.1.1.1) (iQ Q a x h'.1.2) (iQ Q b y h'.2) h'.1.1.2
      | [],_,h=>exact aR h
      | _ :: _ :: _,_,h=>exact aR h
      | [_],[],h=>exact aR h
      | [_],_ :: _ :: _,h=>exact aR h
    | _=>exact aR h
  | .dgt c d f,e,h=>by
    cases e with
    | Call g as ks p =>
      cases g with
      | Attribute y n ap =>
        match as,ks,h with
        | [],_,h=>exact aR h
        | [_],_,h=>exact aR h
        | _ :: _ :: _ :: _,_,h=>exact aR h
        | [_,_],_ :: _,h=>exact aR h
        | [x,z],[],h =>
          have h':(n == ("get" : Str)&&cJ y&&ap.endLine == p.line&&!isStar x&&!isStar z&&kE S c y&&kE S d x&&kE S f z)=true:=h
          simp only [Bool.and_eq_true,Bool.not_eq_true'] at h'
          obtain ⟨⟨⟨⟨⟨⟨⟨h0,h1⟩,h2⟩,h3⟩,h4⟩,h5⟩,h6⟩,h7⟩:=h'
          have:=beq_iff_eq.mp h0;subst this
          have k2:lW S (.cons d (.cons f .nil)) [x,z]=true:=by
            show (!isStar x&&kE S d x&&(!isStar z&&kE S f z&&true))=true
            rw [h3,h4,h6,h7];rfl
          exact aj1 Q.hu (iQ Q c y h5) (iQ Q d x h6) (iQ Q f z h7) ⟨bW h1,jY (X:=X) (cp:=p) k2 (show 2 < 30 by decide),h2,by rw [aV h3,aV h4];rfl⟩
      | _=>exact aR h
    | _=>exact aR h
  | .ajF,e,h=>by
    cases e with
    | Dict ks vs p =>
      match ks,vs,h with
      | [],[],_=>exact aiN
      | _ :: _,_,h=>exact aR h
      | [],_ :: _,h=>exact aR h
    | _=>exact aR h
  | .dm m o c r,e,h=>by
    cases e with
    | Call f xs kws p =>
      cases f with
      | Attribute y n ap =>
        match xs,kws,h with
        | [],_,h=>exact aR h
        | _ :: _,_ :: _,h=>exact aR h
        | x :: xs,[],h =>
          have h':(n == dmN m&&cJ y&&ap.endLine == p.line&&decide ((x :: xs).length < 30)&&kE S o y&&!isStar x&&kE S c x&&lW S r xs)=true:=h
          simp only [Bool.and_eq_true] at h'
          obtain ⟨⟨⟨⟨⟨⟨⟨h1,h2⟩,h3⟩,h4⟩,h5⟩,h6⟩,h7⟩,h8⟩:=h'
          have:=beq_iff_eq.mp h1;subst this
          have hk:lW S (.cons c r) (x :: xs)=true:=by
            show (!isStar x&&kE S c x&&lW S r xs)=true
            rw [h6,h7,h8];rfl
          simp only [Bool.not_eq_true'] at h6
          exact avC Q.hu (iQ Q o y h5) (o8 (iQ Q c x h7) (okA Q r xs h8) (aV h6)) h2 h3 hk (of_decide_eq_true h4)
      | _=>exact aR h
    | _=>exact aR h
theorem okA {X:Cx} {S:SI} {ex:aQ→aY} (Q:jX X S ex):∀ (c:yJ) (es:List Expr),lW S c es=true→PA3 X es (mA S.gl X.K ex c)
  | .nil,es,h=>by
    cases es with
    | nil=>exact a5Y
    | cons _ _=>exact aR h
  | .cons c r,es,h=>by
    cases es with
    | nil=>exact aR h
    | cons x xs =>
      have h7:(!isStar x&&kE S c x&&lW S r xs)=true:=h
      simp only [Bool.and_eq_true,Bool.not_eq_true'] at h7
      exact o8 (iQ Q c x h7.1.2) (okA Q r xs h7.2) (aV h7.1.1)
theorem alO {X:Cx} {S:SI} {ex:aQ→aY} (Q:jX X S ex):∀ (c:yJ) (es:List Expr) (p:Pos),lW S c es=true→bV X (.BoolOp .And es p) (apJ S.gl X.K ex c)
  | .nil,es,p,h=>af8
  | .cons c .nil,es,p,h=>by
    match es,h with
    | [],h=>exact aR h
    | [x],h =>
      have h7:(!isStar x&&kE S c x&&lW S .nil [])=true:=h
      simp only [Bool.and_eq_true,Bool.not_eq_true'] at h7
      exact al6 (iQ Q c x h7.1.2)
    | x :: y :: ys,h =>
      have h7:(!isStar x&&kE S c x&&lW S .nil (y :: ys))=true:=h
      simp only [Bool.and_eq_true,Bool.not_eq_true'] at h7
      exact aR h7.2
  | .cons c (.cons c' r),es,p,h=>by
    match es,h with
    | [],h=>exact aR h
    | [x],h =>
      have h7:(!isStar x&&kE S c x&&lW S (.cons c' r) [])=true:=h
      simp only [Bool.and_eq_true,Bool.not_eq_true'] at h7
      exact aR h7.2
    | x :: y :: ys,h =>
      have h7:(!isStar x&&kE S c x&&lW S (.cons c' r) (y :: ys))=true:=h
      simp only [Bool.and_eq_true,Bool.not_eq_true'] at h7
      exact atJ (iQ Q c x h7.1.2) (alO Q (.cons c' r) (y :: ys) p h7.2)
theorem azC {X:Cx} {S:SI} {ex:aQ→aY} (Q:jX X S ex):∀ (c:yJ) (es:List Expr) (p:Pos),lW S c es=true→bV X (.BoolOp .Or es p) (mOr S.gl X.K ex c)
  | .nil,es,p,h=>af8
  | .cons c .nil,es,p,h=>by
    match es,h with
    | [],h=>exact aR h
    | [x],h =>
      have h7:(!isStar x&&kE S c x&&lW S .nil [])=true:=h
      simp only [Bool.and_eq_true,Bool.not_eq_true'] at h7
      exact al6 (iQ Q c x h7.1.2)
    | x :: y :: ys,h =>
      have h7:(!isStar x&&kE S c x&&lW S .nil (y :: ys))=true:=h
      simp only [Bool.and_eq_true,Bool.not_eq_true'] at h7
      exact aR h7.2
  | .cons c (.cons c' r),es,p,h=>by
    match es,h with
    | [],h=>exact aR h
    | [x],h =>
      have h7:(!isStar x&&kE S c x&&lW S (.cons c' r) [])=true:=h
      simp only [Bool.and_eq_true,Bool.not_eq_true'] at h7
      exact aR h7.2
    | x :: y :: ys,h =>
      have h7:(!isStar x&&kE S c x&&lW S (.cons c' r) (y :: ys))=true:=h
      simp only [Bool.and_eq_true,Bool.not_eq_true'] at h7
      exact ay8 (iQ Q c x h7.1.2) (azC Q (.cons c' r) (y :: ys) p h7.2)
theorem okT {X:Cx} {S:SI} {ex:aQ→aY} (Q:jX X S ex):∀ (c:CT) (e:Expr),kT S c e=true→PT3 X e (mT S.gl X.K ex c)
  | .cmp o a b,e,h=>by
    cases e with
    | Compare x ops ys p =>
      match ops,ys,h with
      | [o'],[y],h =>
        have h':(o == o'&&!behindInMarks o' y&&kE S a x&&kE S b y)=true:=h
        simp only [Bool.and_eq_true,Bool.not_eq_true'] at h'
        have:=beq_iff_eq.mp h'.1.1.1;subst this
        exact al4 (aa9 Q.hu) (iQ Q a x h'.1.2) (iQ Q b y h'.2) h'.1.1.2
      | [],_,h=>exact aR h
      | _ :: _ :: _,_,h=>exact aR h
      | [_],[],h=>exact aR h
      | [_],_ :: _ :: _,h=>exact aR h
    | _=>exact aR h
  | .not t,e,h=>by
    cases e with
    | UnaryOp op x p =>
      cases op with
      | Not=>exact atH (okT Q t x h)
      | _=>exact aR h
    | _=>exact aR h
  | .and ts,e,h=>by
    cases e with
    | BoolOp op xs p =>
      cases op with
      | And=>exact PW.pt (afD Q ts xs p h)
      | Or=>exact aR h
    | _=>exact aR h
  | .or ts,e,h=>by
    cases e with
    | BoolOp op xs p =>
      cases op with
      | Or=>exact PW.pt (alP Q ts xs p h)
      | And=>exact aR h
    | _=>exact aR h
  | .din neg a b,e,h=>by
    cases e with
    | Compare x ops ys p =>
      match ops,ys,h with
      | [o'],[y],h =>
        have h':(o' == (if neg then CmpOp.NotIn else CmpOp.In)&&!behindInMarks o' y&&kE S a x&&kE S b y)=true:=h
        simp only [Bool.and_eq_true,Bool.not_eq_true'] at h'
        exact al4 (afB Q.hu h'.1.1.1) (iQ Q a x h'.1.2) (iQ Q b y h'.2) h'.1.1.2
      | [],_,h=>exact aR h
      | _ :: _ :: _,_,h=>exact aR h
      | [_],[],h=>exact aR h
      | [_],_ :: _ :: _,h=>exact aR h
    | _=>exact aR h
  | .val c,e,h=>by
    have h':(plainT e&&kE S c e)=true:=h
    rw [Bool.and_eq_true] at h'
    exact atD (iQ Q c e h'.2) (apS h'.1)
theorem afD {X:Cx} {S:SI} {ex:aQ→aY} (Q:jX X S ex):∀ (c:CTs) (es:List Expr) (p:Pos),kTs S c es=true→PW3 X (.BoolOp .And es p) (af6 S.gl X.K ex c)
  | .nil,es,p,h=>fun _ _ _ _ _ _ _ ⟨_,_,_,_,_,z,_⟩=>z.elim
  | .cons c .nil,es,p,h=>by
    match es,h with
    | [],h=>exact aR h
    | [x],h =>
      have h7:(kT S c x&&kTs S .nil [])=true:=h
      simp only [Bool.and_eq_true] at h7
      exact anN (okT Q c x h7.1)
    | x :: y :: ys,h =>
      have h7:(kT S c x&&kTs S .nil (y :: ys))=true:=h
      simp only [Bool.and_eq_true] at h7
      exact aR h7.2
  | .cons c (.cons c' r),es,p,h=>by
    match es,h with
    | [],h=>exact aR h
    | [x],h =>
      have h7:(kT S c x&&kTs S (.cons c' r) [])=true:=h
      simp only [Bool.and_eq_true] at h7
      exact aR h7.2
    | x :: y :: ys,h =>
      have h7:(kT S c x&&kTs S (.cons c' r) (y :: ys))=true:=h
      simp only [Bool.and_eq_true] at h7
      exact atG (okT Q c x h7.1) (afD Q (.cons c' r) (y :: ys) p h7.2)
theorem alP {X:Cx} {S:SI} {ex:aQ→aY} (Q:jX X S ex):∀ (c:CTs) (es:List Expr) (p:Pos),kTs S c es=true→PW3 X (.BoolOp .Or es p) (apK S.gl X.K ex c)
  | .nil,es,p,h=>fun _ _ _ _ _ _ _ ⟨_,_,_,_,_,z,_⟩=>z.elim
  | .cons c .nil,es,p,h=>by
    match es,h with
    | [],h=>exact aR h
    | [x],h =>
      have h7:(kT S c x&&kTs S .nil [])=true:=h
      simp only [Bool.and_eq_true] at h7
      exact atF (okT Q c x h7.1)
    | x :: y :: ys,h =>
      have h7:(kT S c x&&kTs S .nil (y :: ys))=true:=h
      simp only [Bool.and_eq_true] at h7
      exact aR h7.2
  | .cons c (.cons c' r),es,p,h=>by
    match es,h with
    | [],h=>exact aR h
    | [x],h =>
      have h7:(kT S c x&&kTs S (.cons c' r) [])=true:=h
      simp only [Bool.and_eq_true] at h7
      exact aR h7.2
    | x :: y :: ys,h =>
      have h7:(kT S c x&&kTs S (.cons c' r) (y :: ys))=true:=h
      simp only [Bool.and_eq_true] at h7
      exact ay7 (okT Q c x h7.1) (alP Q (.cons c' r) (y :: ys) p h7.2)
theorem okO {X:Cx} {S:SI} {ex:aQ→aY} (Q:jX X S ex):∀ (c:CO) (e:Option Expr),kO S c e=true→PO3 X e (mO S.gl X.K ex c)
  | .none,e,h=>by
    cases e with
    | none=>exact anS
    | some _=>exact aR h
  | .some c,e,h=>by
    cases e with
    | none=>exact aR h
    | some x=>exact anT (iQ Q c x h)
theorem okI {X:Cx} {S:SI} {ex:aQ→aY} (Q:jX X S ex) {tg:Expr} {tt:Bool} (htt:tt=true→X.calm=true∧∃ es kt pt,tg = .Tuple es kt pt):∀ (c:CI) (e:Expr),kI S tt c e=true→PI3 X tg e (mI S.gl X.K ex c)
  | .any c,e,h=>auE (iQ Q c e h)
  | .a6Q c,e,h=>by
    cases e with
    | Call f as ks p =>
      cases f with
      | Name r q =>
        cases as with
        | nil=>exact aR h
        | cons y yr =>
          cases yr with
          | cons _ _=>exact aR h
          | nil =>
            cases ks with
            | cons _ _=>exact aR h
            | nil =>
              have h':(r == ("range" : Str)&&vG S&&!isStar y&&kE S c y)=true:=h
              simp only [Bool.and_eq_true,Bool.not_eq_true'] at h'
              obtain ⟨⟨⟨h1,h2⟩,h3⟩,h4⟩:=h'
              have:=beq_iff_eq.mp h1;subst this
              obtain ⟨g1,g2⟩:=a6S Q h2
              exact aoM g1 g2 (o8 (iQ Q c y h4) a5Y (aV h3)) (aV h3)
      | _=>exact aR h
    | _=>exact aR h
theorem okD {X:Cx} {S:SI} {ex:aQ→aY} (Q:jX X S ex) {pos:Pos}:∀ (cs:yJ) (ks:List Str) (keys:List (Option Expr)) (vs:List Expr),lW S cs vs=true→zY ks keys=true→keys.length=vs.length→PDs X pos keys vs ks (mA S.gl X.K ex cs)
  | .nil,ks,keys,vs,h,h2,h3=>by
    cases vs with
    | cons _ _=>exact aR h
    | nil =>
    cases keys with
    | cons _ _=>cases h3
    | nil =>
    cases ks with
    | cons _ _=>exact aR h2
    | nil=>exact aj9
  | .cons c cs,ks,keys,vs,h,h2,h3=>by
    cases vs with
    | nil=>exact aR h
    | cons v vs =>
    have h':(!isStar v&&kE S c v&&lW S cs vs)=true:=h
    simp only [Bool.and_eq_true] at h'
    cases keys with
    | nil=>cases h3
    | cons ke keys =>
    cases ks with
    | nil=>exact aR h2
    | cons k ks =>
    cases ke with
    | none=>exact aR h2
    | some e =>
    cases e with
    | Constant cc j p =>
      cases cc with
      | str k' =>
        have h2':(k == k'&&zY ks keys)=true:=h2
        rw [Bool.and_eq_true] at h2'
        have e0:=beq_iff_eq.mp h2'.1
        subst e0
        exact aeX (iQ Q c v h'.1.2) (okD Q cs ks keys vs h'.2 h2'.2 (Nat.succ.inj h3))
      | _=>exact aR h2
    | _=>exact aR h2
theorem okC {X:Cx} {S:SI} (Q:jX X S NoX):∀ (c:CC) (es:List Expr),kC S c es=true→abS X es (mC S.gl X.K c)
  | .none,es,h=>by
    cases es with
    | nil=>exact aiQ
    | cons _ _=>exact aR h
  | .some t,es,h=>by
    match es,h with
    | [],h=>exact aR h
    | [x],h=>exact aiR (okT Q t x h)
    | _ :: _ :: _,h=>exact aR h
end
end L4
namespace L4
open PySem PySem.Spec PyProof.Rows L2
inductive CTg where
  | nm (i:Nat) | tup (is:List Nat)
mutual
inductive CS where
  | ret (e:CE) | expr (e:CE) | ifs (t:CT) (a b:CB) | set (i:Nat) (e:CE)
  | raise (k:Nat) (e:CE) (es:yJ) | pass
  | setC (i:Nat) (fl gv:List Bool) (ci:CI) (cc:CC) (e:CE) | a4O (ci:CI) (tg:CTg) (b:CB)
  | ajK (is:List Nat) (e:CE) | ajL (t:CT) (b:CB) | ajM (o i e:CE)
inductive CB where
  | nil | cons (s:CS) (r:CB)
end
def avE:bK:=fun _ _ _=>False
def mIS (T:List (Str×GT)) (K:Fg) (ex:aQ→aY):CI→TI3
  | .any e=>a89 (mE T K ex e)
  | .a6Q e=>rB (aA (mE T K ex e) aK)
def mG:CTg→TG3
  | .nm i=>m9 i
  | .tup is=>a2J is
def ajN (T:List (Str×GT)) (ex:aQ→aY) (k:Nat) (t:lO):bK:=match T[k]? with
  | some (_,.cls a)=>sE ex a t
  | _=>avE
def aaB (S:SI) (k:Nat) (x:Str):Bool:=match S.gl[k]? with
  | some (z,.cls _)=>z == x
  | _=>false
mutual
def mS (T:List (Str×GT)) (K:Fg) (ex:aQ→aY):CS→bK
  | .ret e=>gA (mE T K ex e)
  | .expr e=>qR (mE T K ex e)
  | .ifs t a b=>jR (mT T K ex t) (mB T K ex a) (mB T K ex b)
  | .set i e=>bB i (mE T K ex e)
  | .raise k e es=>ajN T ex k (aA (mE T K ex e) (mA T K ex es))
  | .setC i _ _ ci cc e=>bB i (a87 (mI T K ex ci) (mC T K cc) (mE T K NoX e))
  | .a4O ci tg b=>mD (mIS T K ex ci) (mG tg) (mB T K ex b)
  | .ajK is e=>a4G is (mE T K ex e)
  | .ajL t b=>yD (mT T K ex t) (mB T K ex b)
  | .ajM o i e=>a4M (mE T K ex o) (mE T K ex i) (mE T K ex e)
  | .pass=>cU
def mB (T:List (Str×GT)) (K:Fg) (ex:aQ→aY):CB→bK
  | .nil=>cU
  | .cons s .nil=>mS T K ex s
  | .cons s (.cons s' r)=>aU (mS T K ex s) (mB T K ex (.cons s' r))
end
def isTup:Expr→Bool
  | .Tuple ..=>true
  | _=>false
def oH:Expr→Bool
  | .ListComp ..=>true
  | .SetComp ..=>true
  | .DictComp ..=>true
  | _=>false
def kTg (S:SI):CTg→Expr→Bool
  | .nm i,.Name x _=>S.N[i]? == some x&&S.fl[i]? == some true
  | .tup is,.Tuple es _ _=>kNs S is es
  | _,_=>false
where
  kNs (S:SI):List Nat→List Expr→Bool
  | [],[]=>true
  | i :: is,.Name x _ :: es=>S.N[i]? == some x&&S.fl[i]? == some true&&kNs S is es
  | _,_=>false
def apW (S:SI):CTg→Bool
  | .nm _=>true
  | .tup _=>S.calm
mutual
def kS (S:SI) (lv:Nat):CS→Stmt→Bool
  | .ret e,.Return (some x) _=>kE S e x
  | .expr e,.Expr x _=>!oH x&&kE S e x
  | .ifs t a b,.If x y z _=>kT S t x&&kB S lv a y&&kB S lv b z
  | .set i e,.Assign [.Name x _] y _=>S.N[i]? == some x&&S.fl[i]? == some true&&!oH y&&kE S e y
  | .raise k e es,.Raise (some (.Call (.Name x _) (y :: ys) [] _)) none _=>lv == 0&&S.calm&&!isStar y&&kE S e y&&lW S es ys&&S.gv[k]? == some true&&aaB S k x
  | .setC i fl gv ci cc e,.Assign [.Name y _] (.ListComp elt [⟨.Name x _,iter,ifs,a⟩] scope _) _=>S.N[i]? == some y&&S.fl[i]? == some true&&a == 0&&xK S [x] scope fl gv&&!isSet iter&&kI S false ci iter&&kC (S.cmp [x] fl gv) cc ifs&&kE (S.cmp [x] fl gv) e elt
  | .ajK is e,.Assign [.Tuple es _ _] y _=>S.calm&&!isTup y&&!oH y&&kTg.kNs S is es&&kE S e y
  | .ajM o i e,.Assign [.Subscript x y _] z _=>!isSlice y&&!oH z&&kE S o x&&kE S i y&&kE S e z
  | .ajL t b,.While x y [] _=>lv != 1&&kT S t x&&kB S lv b y
  | .a4O ci tg b,.For tgt iter body [] _=>lv != 1&&apW S tg&&!isSet iter&&kTg S tg tgt&&kI S (isTup tgt&&S.calm) ci iter&&kB S lv b body
  | .pass,.Pass _=>true
  | _,_=>false
def kB (S:SI) (lv:Nat):CB→List Stmt→Bool
  | .nil,[]=>true
  | .cons s r,x :: xs=>kS S lv s x&&kB S lv r xs
  | _,_=>false
end
structure afE (X:Cx) (S:SI) (ex:aQ→aY) (lv:Nat):Prop where
  si:jX X S ex
  loc:∀ (i:Nat) (x:Str),S.N[i]?=some x→S.fl[i]?=some true→Loc X.env.scope x
  lcl:∀ (i:Nat) (x:Str),S.N[i]?=some x→S.lc[i]?=some true→X.env.kindOf x=some .local
  fn:∀ (i:Nat) (x:Str),S.N[i]?=some x→S.fl[i]?=some true→X.fn x=true
  cls:∀ (k:Nat) (x:Str) (a:Addr),S.gl[k]?=some (x,.cls a)→S.gv[k]?=some true→PySem.W.excIn X.K a BMv "ValueError.__new__" = true∧(PySem.W.clsIn X.K a).isSome=true∧PySem.W.typeIn X.K (.ref a)=some (.type "type")∧PySem.W.subIn X.K (.ref a) (.type "BaseException")=some true
  l0:lv≠1→PassesOwn (model X.prog X.w) X.A X.env X.xe
  rz:lv=0→S.calm=true→Thr X ex
  stk:X.stack=X.env :: X.outer
  frm:X.env.frame=some X.env.locals
theorem aaC {e:Expr} {t:Option Expr} {n:Nat} {env:Env} (h:oH e=false):swapsWith e t n env=pure false:=by
  cases e <;> first | rfl | exact absurd (show true=false from h) (by decide)
theorem apY {es:List Expr} {k:Nat} {tp:Pos} {e:Expr} {env:Env} (h:isTup e=false):swappedStores [.Tuple es k tp] e env=pure none:=by
  cases e <;> first | rfl | exact absurd (show true=false from h) (by decide)
theorem afF {S:SI} {k:Nat} {x:Str} (h:aaB S k x=true):∃ a,S.gl[k]?=some (x,.cls a):=by
  unfold aaB at h
  split at h
  · rename_i z a hg
    have:=beq_iff_eq.mp h;subst this
    exact ⟨a,hg⟩
  · exact aR h
theorem ajO {T:List (Str×GT)} {ex:aQ→aY} {k:Nat} {x:Str} {a:Addr} {t:lO} (h:T[k]?=some (x,.cls a)):ajN T ex k t=sE ex a t:=by unfold ajN;rw [h]
theorem afG {X:Cx} {S:SI} {ex:aQ→aY} {lv:Nat} (Q:afE X S ex lv) {k:Nat} {e:CE} {es:yJ} {x:Str} {y:Expr} {ys:List Expr} {np cp pos:Pos} (h:kS S lv (.raise k e es) (.Raise (some (.Call (.Name x np) (y :: ys) [] cp)) none pos)=true) :
    PS3 X (.Raise (some (.Call (.Name x np) (y :: ys) [] cp)) none pos) (ajN S.gl ex k (aA (mE S.gl X.K ex e) (mA S.gl X.K ex es))):=by
  have h':(lv == 0&&S.calm&&!isStar y&&kE S e y&&lW S es ys&&S.gv[k]? == some true&&aaB S k x)=true:=h
  simp only [Bool.and_eq_true,Bool.not_eq_true'] at h'
  obtain ⟨⟨⟨⟨⟨⟨h0,hcm⟩,h1⟩,h2⟩,h3⟩,hv⟩,h⟩:=h'
  have hv:=beq_iff_eq.mp hv
  obtain ⟨a,hg⟩:=afF h
  rw [ajO hg]
  have l1:=Q.si.cm hcm
  have l2:=Q.rz (beq_iff_eq.mp h0) hcm
  obtain ⟨g1,g2,g3,g4,g5⟩:=Q.si.gl _ _ _ hg hv
  exact aiF l1 PySem.F.excBase_ValueError (by decide) PySem.F.excBase_ValueError g1 g4 (Q.cls _ _ _ hg hv).1 l2 (o8 (iQ Q.si e y h2) (okA Q.si es ys h3) (aV h1)) g2 (aV h1) (jW h3)
theorem a8H {X:Cx} {S:SI} {ex:aQ→aY} {lv:Nat} (Q:afE X S ex lv):∀ {is:List Nat} {es:List Expr},kTg.kNs S is es=true→Two (aiV X) es is
  | [],[],_ => .nil
  | [],_ :: _,h=>by exact aR h
  | _ :: _,[],h=>by exact aR h
  | i :: is,e :: es,h=>by
    cases e with
    | Name x p =>
      have h':(S.N[i]? == some x&&S.fl[i]? == some true&&kTg.kNs S is es)=true:=h
      simp only [Bool.and_eq_true] at h'
      have e1:=beq_iff_eq.mp h'.1.1
      exact .cons ⟨x,p,rfl,by rw [Q.si.N];exact e1,Q.loc i x e1 (beq_iff_eq.mp h'.1.2),.inl (Q.fn i x e1 (beq_iff_eq.mp h'.1.2))⟩ (a8H Q h'.2)
    | _=>exact aR h
theorem avF {X:Cx} {S:SI} {ex:aQ→aY} {lv:Nat} (Q:afE X S ex lv):∀ {c:CTg} {e:Expr},apW S c=true→kTg S c e=true→PG3 X e (mG c)
  | .nm i,e,_,h=>by
    cases e with
    | Name x p =>
      have h':(S.N[i]? == some x&&S.fl[i]? == some true)=true:=h
      simp only [Bool.and_eq_true] at h'
      have e1:=beq_iff_eq.mp h'.1
      exact aoQ Q.si.nd (by rw [Q.si.N];exact e1) (Q.loc i x e1 (beq_iff_eq.mp h'.2)) (.inl (Q.fn i x e1 (beq_iff_eq.mp h'.2)))
    | _=>exact aR h
  | .tup is,e,hc,h=>by
    cases e with
    | Tuple es k p=>exact alC Q.si.nd (Q.si.cm hc) (a8H Q h)
    | _=>exact aR h
theorem azD {X:Cx} {S:SI} {ex:aQ→aY} (Q:jX X S ex) {tg:Expr} {tt:Bool} (htt:tt=true→X.calm=true∧∃ es kt pt,tg = .Tuple es kt pt):∀ (c:CI) (e:Expr),kI S tt c e=true→PIS X tg e (mIS S.gl X.K ex c)
  | .any c,e,h=>aoT (iQ Q c e h)
  | .a6Q c,e,h=>by
    cases e with
    | Call f as ks p =>
      cases f with
      | Name r q =>
        cases as with
        | nil=>exact aR h
        | cons y yr =>
          cases yr with
          | cons _ _=>exact aR h
          | nil =>
            cases ks with
            | cons _ _=>exact aR h
            | nil =>
              have h':(r == ("range" : Str)&&vG S&&!isStar y&&kE S c y)=true:=h
              simp only [Bool.and_eq_true,Bool.not_eq_true'] at h'
              obtain ⟨⟨⟨h1,h2⟩,h3⟩,h4⟩:=h'
              have:=beq_iff_eq.mp h1;subst this
              obtain ⟨g1,g2⟩:=a6S Q h2
              exact aiX g1 g2 (o8 (iQ Q c y h4) a5Y (aV h3)) (aV h3)
      | _=>exact aR h
    | _=>exact aR h
theorem afH {e:Expr} (h:isTup e=true):∃ es kt pt,e = .Tuple es kt pt:=by
  cases e <;> first | exact ⟨_,_,_,rfl⟩ | exact aR h
mutual
theorem okS:∀ (c:CS) {X:Cx} {S:SI} {ex:aQ→aY} {lv:Nat},afE X S ex lv→∀ (st:Stmt),kS S lv c st=true→PS3 X st (mS S.gl X.K ex c)
  | .ret e,X,S,ex,lv,Q,st,h=>by
    cases st with
    | Return v p =>
      cases v with
      | some x=>exact au2 (iQ Q.si e x h)
      | none=>exact aR h
    | _=>exact aR h
  | .expr e,X,S,ex,lv,Q,st,h=>by
    cases st with
    | Expr x p =>
      have h':(!oH x&&kE S e x)=true:=h
      simp only [Bool.and_eq_true,Bool.not_eq_true'] at h'
      exact anY (iQ Q.si e x h'.2) (aaC h'.1)
    | _=>exact aR h
  | .ifs t a b,X,S,ex,lv,Q,st,h=>by
    cases st with
    | If x y z p =>
      have h':(kT S t x&&kB S lv a y&&kB S lv b z)=true:=h
      simp only [Bool.and_eq_true] at h'
      exact ayF (okT Q.si t x h'.1.1) (okB a Q y h'.1.2) (okB b Q z h'.2)
    | _=>exact aR h
  | .set i e,X,S,ex,lv,Q,st,h=>by
    cases st with
    | Assign ts y p =>
      cases ts with
      | nil=>exact aR h
      | cons t r =>
        cases r with
        | cons _ _=>cases t <;> exact aR h
        | nil =>
          cases t with
          | Name x q =>
            have h':(S.N[i]? == some x&&S.fl[i]? == some true&&!oH y&&kE S e y)=true:=h
            simp only [Bool.and_eq_true,Bool.not_eq_true'] at h'
            have e1:=beq_iff_eq.mp h'.1.1.1
            exact al9 (i:=i) Q.si.nd (by rw [Q.si.N];exact e1) (Q.loc i x e1 (beq_iff_eq.mp h'.1.1.2)) (iQ Q.si e y h'.2) (aaC h'.1.2) (.inl (Q.fn i x e1 (beq_iff_eq.mp h'.1.1.2)))
          | _=>exact aR h
    | _=>exact aR h
  | .ajM o i e,X,S,ex,lv,Q,st,h=>by
    cases st with
    | Assign ts z p =>
      cases ts with
      | nil=>exact aR h
      | cons t r =>
        cases r with
        | cons _ _=>cases t <;> exact aR h
        | nil =>
          cases t with
          | Subscript x y q =>
            have h':(!isSlice y&&!oH z&&kE S o x&&kE S i y&&kE S e z)=true:=h
            simp only [Bool.and_eq_true,Bool.not_eq_true'] at h'
            exact apC Q.si.hu (iQ Q.si o x h'.1.1.2) (iQ Q.si i y h'.1.2) (iQ Q.si e z h'.2) (aaC h'.1.1.1.2)
          | _=>exact aR h
    | _=>exact aR h
  | .raise k e es,X,S,ex,lv,Q,st,h=>by
    cases st with
    | Raise a b p =>
      cases a with
      | none=>exact aR h
      | some a =>
        cases a with
        | Call f as ks q =>
          cases f with
          | Name x np =>
            cases as with
            | nil=>exact aR h
            | cons y ys =>
              cases ks with
              | cons _ _=>exact aR h
              | nil =>
                cases b with
                | some _=>exact aR h
                | none=>exact afG Q h
          | _=>exact aR h
        | _=>exact aR h
    | _=>exact aR h
  | .setC i fl gv ci cc c,X,S,ex,lv,Q,st,h=>by
    cases st with
    | Assign ts z p =>
      cases ts with
      | nil=>exact aR h
      | cons t r =>
        cases r with
        | cons _ _=>cases t <;> exact aR h
        | nil =>
          cases t with
          | Name y q =>
            cases z with
            | ListComp elt gens scope pp =>
              cases gens with
              | nil=>exact aR h
              | cons g gr =>
                cases gr with
                | cons _ _=>obtain ⟨tg,it,ifs,a⟩:=g;cases tg <;> exact aR h
                | nil =>
                  obtain ⟨tg,it,ifs,a⟩:=g
                  cases tg with
                  | Name x px =>
                    have h':(S.N[i]? == some y&&S.fl[i]? == some true&&a == 0&&xK S [x] scope fl gv&&!isSet it&&kI S false ci it&&kC (S.cmp [x] fl gv) cc ifs&&kE (S.cmp [x] fl gv) c elt)=true:=h
                    simp only [Bool.and_eq_true,Bool.not_eq_true'] at h'
                    obtain ⟨⟨⟨⟨⟨⟨⟨hy,hy2⟩,h2⟩,h3⟩,h4⟩,h5⟩,h6⟩,h7⟩:=h'
                    have:=beq_iff_eq.mp h2;subst this
                    have e1:=beq_iff_eq.mp hy
                    exact aiU (i:=i) (nO Q.si h3) (fun C s H fp pins σ=>aoP (nO Q.si h3) Q.si.nd) ae7 Q.si.nd (by rw [Q.si.N];exact e1) (Q.loc i y e1 (beq_iff_eq.mp hy2)) (Q.fn i y e1 (beq_iff_eq.mp hy2)) (okI (tt:=false) Q.si (fun z=>nomatch z) ci it h5) (fun C s H fp pins=>okC (Q.si.cmp h3 C s H fp pins) cc ifs h6) (fun C s H fp pins=>iQ (Q.si.cmp h3 C s H fp pins) c elt h7) (afC h4)
                  | _=>exact aR h
            | _=>exact aR h
          | _=>exact aR h
    | _=>exact aR h
  | .ajK is e,X,S,ex,lv,Q,st,h=>by
    cases st with
    | Assign ts y p =>
      cases ts with
      | nil=>exact aR h
      | cons t r =>
        cases r with
        | cons _ _=>cases t <;> exact aR h
        | nil =>
          cases t with
          | Tuple es k tp =>
            have h':(S.calm&&!isTup y&&!oH y&&kTg.kNs S is es&&kE S e y)=true:=h
            simp only [Bool.and_eq_true,Bool.not_eq_true'] at h'
            obtain ⟨⟨⟨⟨h1,h2⟩,h3⟩,h4⟩,h5⟩:=h'
            exact aoV (alC Q.si.nd (Q.si.cm h1) (a8H Q h4)) (iQ Q.si e y h5) (show swapsWith y (some (.Tuple es k tp)) p.line X.env=pure false from aaC h3) (apY h2) rfl
          | _=>exact aR h
    | _=>exact aR h
  | .ajL t b,X,S,ex,lv,Q,st,h=>by
    cases st with
    | While x y el p =>
      cases el with
      | cons _ _=>exact aR h
      | nil =>
        have h':(lv != 1&&kT S t x&&kB S lv b y)=true:=h
        simp only [Bool.and_eq_true] at h'
        exact aiY (Q.l0 (bne_iff_ne.mp h'.1.1)) (okT Q.si t x h'.1.2) (okB b Q y h'.2)
    | _=>exact aR h
  | .a4O ci tg b,X,S,ex,lv,Q,st,h=>by
    cases st with
    | For tgt it body el p =>
      cases el with
      | cons _ _=>exact aR h
      | nil =>
        have h':(lv != 1&&apW S tg&&!isSet it&&kTg S tg tgt&&kI S (isTup tgt&&S.calm) ci it&&kB S lv b body)=true:=h
        simp only [Bool.and_eq_true,Bool.not_eq_true'] at h'
        obtain ⟨⟨⟨⟨⟨h1,hg⟩,h2⟩,h3⟩,h4⟩,h5⟩:=h'
        exact aoU (Q.l0 (bne_iff_ne.mp h1)) (azD Q.si (fun z=>by rw [Bool.and_eq_true] at z;exact ⟨Q.si.cm z.2,afH z.1⟩) ci it h4) (avF Q hg h3) (okB b Q body h5) (afC h2)
    | _=>exact aR h
  | .pass,X,S,ex,lv,Q,st,h=>by
    cases st with
    | Pass _=>exact anW
    | _=>exact aR h
theorem okB:∀ (c:CB) {X:Cx} {S:SI} {ex:aQ→aY} {lv:Nat},afE X S ex lv→∀ (st:List Stmt),kB S lv c st=true→uX X st (mB S.gl X.K ex c)
  | .nil,X,S,ex,lv,Q,st,h=>by
    cases st with
    | nil=>exact au0
    | cons _ _=>exact aR h
  | .cons s .nil,X,S,ex,lv,Q,st,h=>by
    match st,h with
    | [],h=>exact aR h
    | [x],h =>
      have h':(kS S lv s x&&kB S lv .nil [])=true:=h
      rw [Bool.and_eq_true] at h'
      exact au1 (okS s Q x h'.1)
    | x :: y :: ys,h =>
      have h':(kS S lv s x&&kB S lv .nil (y :: ys))=true:=h
      rw [Bool.and_eq_true] at h'
      exact aR h'.2
  | .cons s (.cons s' r),X,S,ex,lv,Q,st,h=>by
    match st,h with
    | [],h=>exact aR h
    | x :: ys,h =>
      have h':(kS S lv s x&&kB S lv (.cons s' r) ys)=true:=h
      rw [Bool.and_eq_true] at h'
      exact anV (okS s Q x h'.1) (okB (.cons s' r) Q ys h'.2)
end
end L4
namespace L4
open PySem PySem.Spec PyProof.Rows L2
def dJ (R:dG):dG:=fun d G'=>∃ G0,Le G0 G'∧R d G0
def fB (EX:aY):aY:=fun C G'=>∃ G0,Le G0 G'∧EX C G0
def spD (n m:Nat) (tb:aY→bK):jT:=fun ds G R EX=>ds.length=m∧tb (fB EX) ⟨fun _ G'=>dJ R .non G',dJ R,fun _ _=>False,fun _ _=>False⟩ (cT n ds) G
theorem dJ.here {R:dG} {d:D} {G:Gp} (h:R d G):dJ R d G:=⟨G,.refl G,h⟩
theorem fB.here {R:aY} {d:Addr} {G:Gp} (h:R d G):fB R d G:=⟨G,.refl G,h⟩
theorem zZ {K:Fg} {EX:aY} {E:XK} (h:UpX K EX E):UpX K (fB EX) E:=fun C H' G' g ⟨G0,l,q⟩=>h C H' G0 (g.le l) q
theorem ajQ {qt:Bool} {P:Program} {w:World} {K:Fg} {mg:Str→Option Value} {base:Heap} {x qual:Str} {st:Stmt} {f:Addr} {fd:FuncData} {N ps:List Str} {k:Nat} {tb:aY→bK} (F:uU K x qual st f fd) (S:bD N ps (aC st))
    (hbody:∀ (cdv:Value) (A:Around) (outer:List Env) (s:Shared) (H:Hp) (E:XK) (EX:aY),bQ qt k (A.deeper (envOfC qual (aC st) s.heap.objs.size f cdv))→UpX K EX E →
      uX (uY qt P w K mg base N qual (aC st) f cdv A outer s H E) (bI st) (tb EX)):bY qt P w K mg base (iJ P w) (k+1) f fd ps (cO K (spD N.length ps.length tb)):=by
  refine (ao1 F S hbody).imp fun vs H Q E ⟨ds,G,R,EX,r,g,⟨hl,q⟩,kk,hE⟩=>?_
  exact ⟨ds,G,dJ R,fB EX,r,g,⟨hl,q⟩,fun v H' d G' r1 g1 ⟨G0,l,q⟩=>kk v H' d G0 r1 (g1.le l) q,zZ hE⟩
def GTs (P:Program) (w:World) (K:Fg) (mg:Str→Option Value) (base:Heap) (k:Nat) (x:Str):GT→Prop
  | .con d=>∃ u v,mg x=some u∧RelV v u∧∀ H,RD K H d v
  | .cls a=>mg x=some (.ref a)∧PySem.W.excIn K a BMv "ValueError.__new__" = true∧(PySem.W.clsIn K a).isSome=true∧PySem.W.typeIn K (.ref a)=some (.type "type")∧PySem.W.subIn K (.ref a) (.type "BaseException")=some true
  | .fn sp n qt=>∃ f fd ps,bY qt P w K mg base (iJ P w) k f fd ps (cO K sp)∧mg x=some (.ref f)∧PySem.W.keepIn K (.ref f)=true∧Binds K fd ps []
  | .bf b=>mg x=none∧bootBuiltins x=some (alL b)
  | .bt n=>mg x=none∧bootBuiltins x=some (.type n)
  | .kl C sp dd=>∃ j f fd ps ds uJ,j+1=k∧Mk K C f∧bY false P w K mg base (iJ P w) j f fd ps (cO K sp)∧mg x=some (.ref C)∧Binds K fd ps ds∧Vals uJ ds∧∀ H,bF K H dd uJ
  | .me C m sp dd=>∃ f fd ps ds uJ,Cls K C∧Meth K C m f∧bY false P w K mg base (iJ P w) k f fd ps (cO K sp)∧Binds K fd ps ds∧Vals uJ ds∧∀ H,bF K H dd uJ
  | .fl C f=>Cls K C∧ad2 K C f
  | .clo c sp=>qU false P w K mg base k c sp
  | .fnP sp n=>∃ f fd ps,a6M false P w K mg base (iJ P w) k f fd ps (cO K sp)∧mg x=some (.ref f)∧PySem.W.keepIn K (.ref f)=true∧Binds K fd ps []
def ajS (sc:Scope) (x:Str):Bool:=match sc.names.lookup x with
  | some .local=>true
  | some .cell=>true
  | _=>false
def ajT (sc:Scope) (x:Str):Bool:=match sc.names.lookup x with
  | some .local=>true
  | _=>false
def ajU (sc:Scope) (x:Str):Bool:=match sc.names.lookup x with
  | some .globalImplicit=>true
  | _=>false
def ajV (sc:Scope) (x:Str):Bool:=match sc.names.lookup x with
  | some .cell=>true
  | _=>false
theorem aaD {sc:Scope} {x:Str} (h:ajV sc x=true):sc.names.lookup x=some .cell:=by
  unfold ajV at h
  split at h
  · rename_i e;exact e
  · exact aR h
def vH (S:SI) (sc:Scope):Bool:=(List.range S.N.length).all (fun i=>match S.N[i]? with
    | none=>false
    | some x=>x != ("__debug__" : Str)&&x != ("__classdict__" : Str)&&(S.fl[i]? != some true || ajS sc x)&&(S.lc[i]? != some true || ajT sc x)&&(S.ce[i]? != some true || ajV sc x)) &&
  (List.range S.gl.length).all (fun k=>match S.gl[k]? with
    | none=>false
    | some (y,_)=>(S.gv[k]? != some true || ajU sc y)&&y != ("__debug__" : Str)&&y != ("__name__" : Str))
theorem aaE {sc:Scope} {x:Str} (h:ajS sc x=true):Loc sc x:=by
  unfold ajS at h
  split at h
  · rename_i e;exact .inl e
  · rename_i e;exact .inr e
  · exact aR h
theorem vI {sc:Scope} {x:Str} (h:Loc sc x):Vis sc x:=h.elim .inl fun z => .inr (.inl z)
theorem aaF {sc:Scope} {x:Str} (h:ajT sc x=true):sc.names.lookup x=some .local:=by
  unfold ajT at h
  split at h
  · rename_i e;exact e
  · exact aR h
theorem aaG {sc:Scope} {x:Str} (h:ajU sc x=true):sc.names.lookup x=some .globalImplicit:=by
  unfold ajU at h
  split at h
  · rename_i e;exact e
  · exact aR h
theorem dZ {S:SI} {sc:Scope} (h:vH S sc=true) {i:Nat} {x:Str} (e:S.N[i]?=some x) :
    (x == ("__debug__" : Str))=false∧(x == ("__classdict__" : Str))=false∧(S.fl[i]?=some true→Loc sc x)∧(S.lc[i]?=some true→sc.names.lookup x=some .local)∧(S.ce[i]?=some true→sc.names.lookup x=some .cell):=by
  unfold vH at h
  rw [Bool.and_eq_true] at h
  have hi:i < S.N.length:=(List.getElem?_eq_some_iff.mp e).1
  have q:=List.all_eq_true.mp h.1 i (List.mem_range.mpr hi)
  rw [e] at q
  simp only [Bool.and_eq_true,bne_iff_ne,ne_eq,Bool.or_eq_true] at q
  obtain ⟨⟨⟨⟨q1,q2⟩,q3⟩,q4⟩,q5⟩:=q
  refine ⟨beq_eq_false_iff_ne.mpr q1,beq_eq_false_iff_ne.mpr q2,fun z=>?_,fun z=>?_,fun z=>?_⟩
  · rcases q3 with q | q
    · exact absurd z q
    · exact aaE q
  · rcases q4 with q | q
    · exact absurd z q
    · exact aaF q
  · rcases q5 with q | q
    · exact absurd z q
    · exact aaD q
theorem a4P {S:SI} {sc:Scope} (h:vH S sc=true) {k:Nat} {x:Str} {g:GT} (e:S.gl[k]?=some (x,g)):(S.gv[k]?=some true→sc.names.lookup x=some .globalImplicit)∧(x == ("__debug__" : Str))=false∧x ≠ "__name__" := by
  unfold vH at h
  rw [Bool.and_eq_true] at h
  have q:=List.all_eq_true.mp h.2 k (List.mem_range.mpr (List.getElem?_eq_some_iff.mp e).1)
  rw [e] at q
  simp only [Bool.and_eq_true,bne_iff_ne,ne_eq,Bool.or_eq_true] at q
  exact ⟨fun z=>aaG (q.1.1.resolve_left fun n=>n z),beq_eq_false_iff_ne.mpr q.1.2,q.2⟩
theorem afI {qt:Bool} {P:Program} {w:World} {K:Fg} {mg:Str→Option Value} {base:Heap} {x qual:Str} {st:Stmt} {f:Addr} {fd:FuncData} {ps:List Str} {k:Nat} {S:SI} {c:CB} (F:uU K x qual st f fd) (hS:bD S.N ps (aC st))
    (hc:S.calm=!qt) (hv:vH S (aC st)=true) (hk:kB S 0 c (bI st)=true) (hg:∀ (j:Nat) (y:Str) (g:GT),S.gl[j]?=some (y,g)→GTs P w K mg base k y g) (hn:S.need=false:=by rfl) :
    bY qt P w K mg base (iJ P w) (k+1) f fd ps (cO K (spD S.N.length ps.length fun EX=>mB S.gl K (fun _=>EX) c)):=by
  refine ajQ F hS fun cdv A outer s H E EX hr hE=>?_
  refine okB c (X:=uY qt P w K mg base S.N qual (aC st) f cdv A outer s H E) (S:=S) (ex:=fun _=>EX) (lv:=0) ?_ (bI st) hk
  refine ⟨⟨rfl,hS.nd,fun i y e1 e2=>?_,fun i y e1 e2 => .inl ((dZ hv e1).2.2.2.2 e2),fun j y g e=>?_,hr.units,fun z=>hc.symm.trans z,anZ hE,fun z=>by rw [hn] at z;cases z⟩,fun i y e1 e2=>?_,fun i y e1 e2=>?_,fun _ _ _ _=>rfl,fun j y a e _=>?_,fun _=>own1,fun _ _=>ao0 hE,rfl,rfl⟩
  · obtain ⟨a1,a2,a3,a4⟩:=dZ hv e1
    exact ⟨vI (a3 e2),a1,a2⟩
  · obtain ⟨a1,a2,a3⟩:=a4P hv e
    have z:=hg j y g e
    refine ⟨a1,a2,a3,?_⟩
    cases g with
    | con d=>exact z
    | cls a=>exact ⟨z.1,z.2.1⟩
    | fn sp n q2 =>
      intro hz
      obtain ⟨f',fd',ps',F',m',k',b'⟩:=z
      refine ⟨k,f',fd',ps',F',⟨fun e=>hr.hd ?_,hr.dp,hr.un⟩,m',k',b'⟩
      have hs:S.calm=true:=hz.resolve_left (by rw [e];decide)
      rw [hc] at hs
      simpa using hs
    | bf b=>exact z
    | bt n=>exact z
    | kl C sp dd =>
      intro hs
      obtain ⟨j',f',fd',ps',ds,uJ,rfl,q1,q2,q3,q4,q5,q6⟩:=z
      rw [hc] at hs
      exact ⟨j',f',fd',ps',ds,uJ,q1,q2,⟨fun _=>hr.hd (by simpa using hs),hr.dp,hr.un⟩,q3,q4,q5,q6⟩
    | me C m sp dd =>
      intro hs
      obtain ⟨f',fd',ps',ds,uJ,q1,q2,q3,q4,q5,q6⟩:=z
      rw [hc] at hs
      exact ⟨k,f',fd',ps',ds,uJ,q1,q2,q3,⟨fun _=>hr.hd (by simpa using hs),hr.dp,hr.un⟩,q4,q5,q6⟩
    | fl C f=>exact z
    | clo c sp =>
      intro hs
      rw [hc] at hs
      exact ⟨k,z,⟨fun _=>hr.hd (by simpa using hs),hr.dp,hr.un⟩⟩
    | fnP sp n =>
      intro hs
      obtain ⟨f',fd',ps',F',m',k',b'⟩:=z
      rw [hc] at hs
      exact ⟨k,f',fd',ps',F',⟨fun _=>hr.hd (by simpa using hs),hr.dp,hr.un⟩,m',k',b'⟩
  · exact (dZ hv e1).2.2.1 e2
  · exact (dZ hv e1).2.2.2.1 e2
  · have z:=hg j y _ e
    exact z.2
end L4
namespace L4
open PySem PySem.Spec PyProof.Rows L2 PySem.W
def apZ (sc:Scope) (x:Str):Bool:=match sc.names.lookup x with
  | some .free=>true
  | _=>false
theorem ajW {sc:Scope} {x:Str} (h:apZ sc x=true):sc.names.lookup x=some .free:=by
  unfold apZ at h
  split at h
  · assumption
  · exact aR h
def ac1 (S:SI) (sc:Scope):Bool:=(List.range S.N.length).all (fun i=>match S.N[i]? with
    | none=>false
    | some x=>x != ("__debug__" : Str)&&x != ("__classdict__" : Str)&&(S.fl[i]? != some true || ajS sc x)&&(S.lc[i]? != some true || ajT sc x)&&(S.ce[i]? != some true || (ajV sc x || apZ sc x))) &&
  (List.range S.gl.length).all (fun k=>match S.gl[k]? with
    | none=>false
    | some (y,_)=>(S.gv[k]? != some true || ajU sc y)&&y != ("__debug__" : Str)&&y != ("__name__" : Str))
theorem u9 {S:SI} {sc:Scope} (h:ac1 S sc=true) {i:Nat} {x:Str} (e:S.N[i]?=some x) :
    (x == ("__debug__" : Str))=false∧(x == ("__classdict__" : Str))=false∧(S.fl[i]?=some true→Loc sc x)∧(S.lc[i]?=some true→sc.names.lookup x=some .local)∧(S.ce[i]?=some true→sc.names.lookup x=some .cell∨sc.names.lookup x=some .free):=by
  unfold ac1 at h
  rw [Bool.and_eq_true] at h
  have hi:i < S.N.length:=(List.getElem?_eq_some_iff.mp e).1
  have q:=List.all_eq_true.mp h.1 i (List.mem_range.mpr hi)
  rw [e] at q
  simp only [Bool.and_eq_true,bne_iff_ne,ne_eq,Bool.or_eq_true] at q
  obtain ⟨⟨⟨⟨q1,q2⟩,q3⟩,q4⟩,q5⟩:=q
  exact ⟨beq_eq_false_iff_ne.mpr q1,beq_eq_false_iff_ne.mpr q2,fun z=>aaE (q3.resolve_left fun n=>n z),fun z=>aaF (q4.resolve_left fun n=>n z),fun z=>(q5.resolve_left fun n=>n z).elim (fun y => .inl (aaD y)) fun y => .inr (ajW y)⟩
theorem afJ {S:SI} {sc:Scope} (h:ac1 S sc=true) {k:Nat} {y:Str} {g:GT} (e:S.gl[k]?=some (y,g)):(S.gv[k]?=some true→sc.names.lookup y=some .globalImplicit)∧(y == ("__debug__" : Str))=false∧y ≠ "__name__" := by
  unfold ac1 at h
  rw [Bool.and_eq_true] at h
  have hi:k < S.gl.length:=(List.getElem?_eq_some_iff.mp e).1
  have q:=List.all_eq_true.mp h.2 k (List.mem_range.mpr hi)
  rw [e] at q
  simp only [Bool.and_eq_true,bne_iff_ne,ne_eq,Bool.or_eq_true] at q
  exact ⟨fun z=>aaG (q.1.1.resolve_left fun n=>n z),beq_eq_false_iff_ne.mpr q.1.2,q.2⟩
section
variable {P:Program} {w:World} {K:Fg} {mg:Str→Option Value} {base:Heap} {k:Nat}
theorem a4Q {X:Cx} {S:SI} {qt:Bool} (hX:X.prog=P∧X.w=w∧X.K=K∧X.mg=mg∧X.base=base) (hr:bQ qt k X.A) (hc:S.calm=!qt) {y:Str} {g:GT} (z:GTs P w K mg base k y g):apQ X S.calm y g:=by
  obtain ⟨rfl,rfl,rfl,rfl,rfl⟩:=hX
  cases g with
  | con d=>exact z
  | cls a=>exact ⟨z.1,z.2.1⟩
  | fn sp n q2 =>
    intro hz
    obtain ⟨f',fd',ps',F',m',k',b'⟩:=z
    refine ⟨k,f',fd',ps',F',⟨fun e=>hr.hd ?_,hr.dp,hr.un⟩,m',k',b'⟩
    have hs:S.calm=true:=hz.resolve_left (by rw [e];decide)
    rw [hc] at hs
    simpa using hs
  | bf b=>exact z
  | bt n=>exact z
  | kl C sp dd =>
    intro hs
    obtain ⟨j',f',fd',ps',ds,uJ,rfl,q1,q2,q3,q4,q5,q6⟩:=z
    rw [hc] at hs
    exact ⟨j',f',fd',ps',ds,uJ,q1,q2,⟨fun _=>hr.hd (by simpa using hs),hr.dp,hr.un⟩,q3,q4,q5,q6⟩
  | me C m sp dd =>
    intro hs
    obtain ⟨f',fd',ps',ds,uJ,q1,q2,q3,q4,q5,q6⟩:=z
    rw [hc] at hs
    exact ⟨k,f',fd',ps',ds,uJ,q1,q2,q3,⟨fun _=>hr.hd (by simpa using hs),hr.dp,hr.un⟩,q4,q5,q6⟩
  | fl C f=>exact z
  | clo c sp =>
    intro hs
    rw [hc] at hs
    exact ⟨k,z,⟨fun _=>hr.hd (by simpa using hs),hr.dp,hr.un⟩⟩
  | fnP sp n =>
    intro hs
    obtain ⟨f',fd',ps',F',m',k',b'⟩:=z
    rw [hc] at hs
    exact ⟨k,f',fd',ps',F',⟨fun _=>hr.hd (by simpa using hs),hr.dp,hr.un⟩,m',k',b'⟩
theorem afK {c:uW} {ps:List Str} {S:SI} {cb:CB} (hS:ScX S.N ps c.x c.scope) (n8:∀ y∈c.scope.names,y.1=c.x→y.2 ≠ .cell)
    (hb:∀ (cl:List (Str×Addr)) (doc pm cdv ctv:Value) (us:List Value),us.length=ps.length→bindArgs (fnX c.name c.qual c.params c.body c.scope cl .none .none doc pm none cdv ctv) ⟨us,[]⟩=pure (ps.zip us))
    (hc:S.calm=true) (hv:ac1 S c.scope=true) (hk:kB S 0 cb c.body=true) (hg:∀ (j:Nat) (y:Str) (g:GT),S.gl[j]?=some (y,g)→GTs P w K mg base k y g) (hn:S.need=false:=by rfl) :
    qU false P w K mg base (k+1) c (spD S.N.length (ps.length+1) fun EX=>mB S.gl K (fun _=>EX) cb):=by
  have main:qU false P w K mg base (k+1) c (aiB S.N.length (ps.length+1) fun EX=>mB S.gl K (fun _=>fB EX) cb):=by
    refine ao5 hS n8 hb fun f c' cc A outer s H hr=>?_
    refine okB cb (X:=cxX false (iJ P w) P w K mg base S.N c.qual c.scope f (.ref c') c.x cc A outer s H (fun _ _ _=>False)) (S:=S) (ex:=fun _=>fB fun _ _=>False) (lv:=0) ?_ c.body hk
    refine ⟨⟨rfl,hS.nd,fun i y e1 e2=>?_,fun i y e1 e2=>(u9 hv e1).2.2.2.2 e2,fun j y g e=>?_,hr.units,fun _=>rfl,⟨fun pins σ H' s' ρ e s'' I sr z=>?_⟩,fun z=>by rw [hn] at z;cases z⟩,fun i y e1 e2=>(u9 hv e1).2.2.1 e2,fun i y e1 e2=>(u9 hv e1).2.2.2.1 e2,fun i y e1 e2=>?_,fun j y a e _=>(hg j y _ e).2,fun _=>PassesOwn.leaving,fun _ _=>⟨fun pins σ H' s' ρ C e us h' I sr hm z=>?_⟩,rfl,rfl⟩
    · obtain ⟨a1,a2,a3,_⟩:=u9 hv e1
      exact ⟨vI (a3 e2),a1,a2⟩
    · obtain ⟨a1,a2,a3⟩:=afJ hv e
      exact ⟨a1,a2,a3,a4Q (qt:=false) ⟨rfl,rfl,rfl,rfl,rfl⟩ hr hc (hg j y g e)⟩
    · obtain ⟨_,_,_,_,_,_,_,_,_,_,_,_,z⟩:=z
      obtain ⟨_,_,_,_,_,_,z⟩:=z
      exact z.elim
    · show (!(y == c.x))=true
      have l:=(u9 hv e1).2.2.1 e2
      have n:y≠c.x:=fun q=>by
        subst q
        rcases l with l | l <;> (have o:=hS.own;rw [l] at o;cases o)
      simp [n]
    · obtain ⟨_,_,_,_,_,_,z⟩:=z
      exact z.elim
  intro A outer s H us vs ds d G R E f hr e0 hh g hf rv rd hsp
  refine codeAny_mono (main A outer s H us vs ds d G (dJ R) E f hr e0 hh g hf rv rd hsp) fun r s' q=>?_
  cases r with
  | error e=>exact q
  | ok fl =>
    cases fl with
    | ret u =>
      obtain ⟨v,H',a1,a2,a3,a4,a5,d',G2,r2,g2,G0,l,q2⟩:=q
      exact ⟨v,H',a1,a2,a3,a4,a5,d',G0,r2,g2.le l,q2⟩
    | _=>exact q
def alQ (n m:Nat) (tb:aY→bK) (T:Addr) (c:uW) (pos:Pos) (ix:Nat):jT:=au4 n m (fun EX=>tb (fB EX)) T c pos ix
theorem ajX {qt:Bool} {x qual:Str} {st:Stmt} {f cC T:Addr} {fd:FuncData} {ps:List Str} {ig ix:Nat} {S:SI} {cb:CB} {pre:List Stmt} {c:uW} {pos pg pr:Pos} (F:uU K x qual st f fd) (hS:bD S.N ps (aC st))
    (hb:bI st=(pre++[.FunctionDef c.name c.params c.body [] none [] c.scope none c.name pos])++[.Return (some (.Name c.name pg)) pr]) (hd0:c.params.defaults=[]) (hk0:c.params.kw_defaults=[]) (ha:∀ env,annTrees c.params none env=[])
    (hq:qual ++ ".<locals>." ++ c.name=c.qual) (hfc:fd.code = .ref cC) (hC:CodeHd base cC T) (hbt:base.BuiltinsAt mg T) (hcf:c.scope.names.filter (fun p=>p.2 == .free)=[(c.x,.free)])
    (hig:S.N[ig]?=some c.name) (hgl:(aC st).names.lookup c.name=some .local) (hix:S.N[ix]?=some c.x) (hxc:(aC st).names.lookup c.x=some .cell) (hne:ig≠ix) (hdb:(c.name == ("__debug__" : Str))=false) (hcd:(c.name == ("__classdict__" : Str))=false)
    (hc:S.calm=!qt) (hv:vH S (aC st)=true) (hk:kB S 0 cb pre=true) (hg:∀ (j:Nat) (y:Str) (g:GT),S.gl[j]?=some (y,g)→GTs P w K mg base k y g) (hn:S.need=false:=by rfl) :
    bY qt P w K mg base (iJ P w) (k+1) f fd ps (cO K (alQ S.N.length ps.length (fun EX=>mB S.gl K (fun _=>EX) cb) T c pos ix)):=by
  have z:=ao2 (tb:=fun EX=>mB S.gl K (fun _=>EX) cb) F hS hb hd0 hk0 ha hq hfc hC hbt hcf hig hgl hix hxc hne hdb hcd (k:=k) (qt:=qt) (P:=P) (w:=w) fun cdv A outer s H E EX hr hE=>by
    refine okB cb (X:=uY qt P w K mg base S.N qual (aC st) f cdv A outer s H E) (S:=S) (ex:=fun _=>EX) (lv:=0) ?_ pre hk
    refine ⟨⟨rfl,hS.nd,fun i y e1 e2=>?_,fun i y e1 e2 => .inl ((dZ hv e1).2.2.2.2 e2),fun j y g e=>?_,hr.units,fun z=>hc.symm.trans z,anZ hE,fun z=>by rw [hn] at z;cases z⟩,fun i y e1 e2=>(dZ hv e1).2.2.1 e2,fun i y e1 e2=>(dZ hv e1).2.2.2.1 e2,fun _ _ _ _=>rfl,fun j y a e _=>(hg j y _ e).2,fun _=>own1,fun _ _=>ao0 hE,rfl,rfl⟩
    · obtain ⟨a1,a2,a3,a4⟩:=dZ hv e1
      exact ⟨vI (a3 e2),a1,a2⟩
    · obtain ⟨a1,a2,a3⟩:=a4P hv e
      exact ⟨a1,a2,a3,a4Q ⟨rfl,rfl,rfl,rfl,rfl⟩ hr hc (hg j y g e)⟩
  refine z.imp fun vs H Q E ⟨ds,G,R,EX,r,g,q,kk,hE⟩=>⟨ds,G,R,fB EX,r,g,q,kk,zZ hE⟩
end
theorem qU.mono {qt:Bool} {P:Program} {w:World} {K:Fg} {mg:Str→Option Value} {base:Heap} {j k:Nat} {c:uW} {sp:jT} (F:qU qt P w K mg base j c sp) (h:j≤k):qU qt P w K mg base k c sp :=
  fun A outer s H us vs ds d G R E f hr=>F A outer s H us vs ds d G R E f (hr.mono h)
def inBody (s:Stmt) (i:Nat):Stmt:=(bI s).getD i (.Pass ⟨0,0,0,0⟩)
def avG (qual x:Str) (s:Stmt):uW:=match s with
  | .FunctionDef nm a b _ _ _ sc _ _ _=>⟨nm,qual ++ ".<locals>." ++ nm,a,b,sc,x⟩
  | s=>⟨"", "",gM s,[],aC s, ""⟩
def a6V (s:Stmt):Pos:=match s with
  | .FunctionDef _ _ _ _ _ _ _ _ _ p=>p
  | _=>⟨0,0,0,0⟩
def avH (s:Stmt):Pos:=match s with
  | .Return _ p=>p
  | _=>⟨0,0,0,0⟩
def aq0 (s:Stmt):Pos:=match s with
  | .Return (some (.Name _ p)) _=>p
  | _=>⟨0,0,0,0⟩
theorem a3A {sc:Scope} {x:Str} (h:sc.names.all (fun p=>p.2 != .free || p.1 == x)=true):∀ y,sc.names.lookup y=some .free→y=x:=by
  have key:∀ (l:List (Str×NameKind)),l.all (fun p=>p.2 != .free || p.1 == x)=true→∀ y,l.lookup y=some .free→y=x:=by
    intro l
    induction l with
    | nil=>intro _ y z;cases z
    | cons p r ih =>
      intro ha y z
      obtain ⟨n,kd⟩:=p
      rw [List.all_cons,Bool.and_eq_true] at ha
      rw [List.lookup_cons] at z
      split at z
      · rename_i e
        cases z
        rcases Bool.or_eq_true _ _ |>.mp ha.1 with q | q
        · simp at q
        · rw [beq_iff_eq.mp e];exact beq_iff_eq.mp q
      · exact ih ha.2 y z
  exact key _ h
theorem a6W {K:Fg} {x qual:Str} {st:Stmt} {f c t:Addr} {fd:FuncData} (F:uU K x qual st f fd) {y:Str} (h:tabIn K y=some (c,t)) (hn:nsIn K mainGlobals y=some (some (.ref f))):fd.code = .ref c:=by
  obtain ⟨oc,od,dV,kV,doc,pm,an,cdv,ct,osl,rfl,lk,_⟩:=F.ex
  unfold tabIn at h
  rw [hn] at h
  dsimp only at h
  rw [lk] at h
  dsimp only at h
  split at h
  · rename_i c' e
    split at h
    · split at h
      · cases h;first | exact e | assumption | rfl
      · cases h
    · cases h
  · cases h
def cV (K:Fg) (x:Str):Addr×Addr:=(tabIn K x).getD (0,0)
theorem yK {K:Fg} {x:Str} (h:(tabIn K x).isSome=true):tabIn K x=some ((cV K x).1,(cV K x).2):=by
  unfold cV
  cases e:tabIn K x with
  | none=>rw [e] at h;cases h
  | some p=>rfl
end L4
namespace L2
open PySem PySem.Spec PyProof.Rows PySem.W
end L2
namespace L4
open PySem PySem.Spec PyProof.Rows L2 PySem.W
section
variable {P:Program} {w:World} {K:Fg} {mg:Str→Option Value} {base:Heap} {k:Nat}
theorem afL {c:tH} {ps:List Str} {S:SI} {ce:CE} (hS:ScX S.N ps c.x c.scope) (n8:∀ y∈c.scope.names,y.1=c.x→y.2 ≠ .cell)
    (hb:∀ (cl:List (Str×Addr)) (pm cdv ctv:Value) (us:List Value),us.length=ps.length→bindArgs (kla_fn "<lambda>" c.qual c.params c.body c.scope cl pm cdv ctv) ⟨us,[]⟩=pure (ps.zip us))
    (hc:S.calm=true) (hv:ac1 S c.scope=true) (hk:kE S ce c.body=true) (hg:∀ (j:Nat) (y:Str) (g:GT),S.gl[j]?=some (y,g)→GTs P w K mg base k y g) (hn:S.need=false:=by rfl) :
    tR false P w K mg base (k+1) c (spL S.N.length (ps.length+1) (mE S.gl K (fun _=>fB fun _ _=>False) ce)):=by
  refine apB hS n8 hb fun f c' cc A outer s H hr=>?_
  refine iQ (X:=cxX false (iJ P w) P w K mg base S.N c.qual c.scope f (.ref c') c.x cc A outer s H (fun _ _ _=>False)) (S:=S) (ex:=fun _=>fB fun _ _=>False) ?_ ce c.body hk
  refine ⟨rfl,hS.nd,fun i y e1 e2=>?_,fun i y e1 e2=>(u9 hv e1).2.2.2.2 e2,fun j y g e=>?_,hr.units,fun _=>rfl,⟨fun pins σ H' s' ρ e s'' I sr z=>?_⟩,fun z=>by rw [hn] at z;cases z⟩
  · obtain ⟨a1,a2,a3,_⟩:=u9 hv e1
    exact ⟨vI (a3 e2),a1,a2⟩
  · obtain ⟨a1,a2,a3⟩:=afJ hv e
    exact ⟨a1,a2,a3,a4Q (qt:=false) ⟨rfl,rfl,rfl,rfl,rfl⟩ hr hc (hg j y g e)⟩
  · obtain ⟨_,_,_,_,_,_,_,_,_,_,_,_,z⟩:=z
    obtain ⟨_,_,_,_,_,_,z⟩:=z
    exact z.elim
theorem tR.mono {qt:Bool} {j k:Nat} {c:tH} {sp:jT} (F:tR qt P w K mg base j c sp) (h:j≤k):tR qt P w K mg base k c sp :=
  fun A outer s H us vs ds d G R E f cc c' pm ctv u vv hr=>F A outer s H us vs ds d G R E f cc c' pm ctv u vv (hr.mono h)
def afM (n m:Nat) (T:Addr) (c:tH) (ip ix:Nat) (sp:jT):jT:=fun ds G R _=>ds.length=m∧af4 (aB ip) T c ix sp (cT n ds) G R
def sJ (s:Stmt):Pos×Pos×Pos×Pos×Pos:=match bI s with
  | [.Return (some (.Call (.Name _ p1) [.Name _ p2] [⟨_,_,kp⟩] p3)) p4]=>(p1,p2,p3,p4,kp)
  | _=>(⟨0,0,0,0⟩,⟨0,0,0,0⟩,⟨0,0,0,0⟩,⟨0,0,0,0⟩,⟨0,0,0,0⟩)
theorem ac2 {qt:Bool} {x qual y:Str} {st:Stmt} {f cC T:Addr} {fd:FuncData} {N ps:List Str} {ip ix:Nat} {c:tH} {sp:jT} (F:uU K x qual st f fd) (S:bD N ps (aC st))
    (hb:bI st=[.Return (some (.Call (.Name "sorted" (sJ st).1) [.Name y (sJ st).2.1] [⟨some "key",.Lambda c.params c.body c.scope c.pos,(sJ st).2.2.2.2⟩] (sJ st).2.2.1)) (sJ st).2.2.2.1]) (hd:∀ env,defaultsOf c.params env=([],[])) (hq:qual ++ ".<locals>." ++ "<lambda>" = c.qual) (hfc:fd.code = .ref cC) (hC:CodeHd base cC T) (hbt:base.BuiltinsAt mg T)
    (hcf:c.scope.names.filter (fun p=>p.2 == .free)=[(c.x,.free)]) (hip:N[ip]?=some y) (hyl:(aC st).names.lookup y=some .local) (hix:N[ix]?=some c.x) (hxc:(aC st).names.lookup c.x=some .cell) (hdb:(y == ("__debug__" : Str))=false) (hcd:(y == ("__classdict__" : Str))=false)
    (hgs:(aC st).names.lookup ("sorted" : Str)=some .globalImplicit) (hms:mg "sorted" = none) (LO:tR qt P w K mg base k c sp):bY qt P w K mg base (iJ P w) (k+3) f fd ps (cO K (afM N.length ps.length T c ip ix sp)):=by
  obtain ⟨oc,od,dV,kV,doc,pm,an,cdv,ct,osl,rfl,lk,ao3⟩:=F.ex
  generalize sJ st=pp at hb
  obtain ⟨p1,p2,p3,p4,kp⟩:=pp
  rw [hb] at lk ⊢
  have ecd:cdv = .ref cC:=hfc
  subst ecd
  refine ad3 (k:=k+2) lk ao3 S (fun vs H Q E h=>?_) fun A outer s H vs Q E hr hsp=>?_
  · obtain ⟨ds,G,R,EX,r,g,⟨hl,q⟩,_⟩:=h
    rw [← r.length,hl]
  · obtain ⟨ds,G,R,EX,r,g,⟨hl,q⟩,kk,hE⟩:=hsp
    have pv:=adK (X:=eE qt (iJ P w) P w K mg base N qual (aC st) f (.ref cC) A outer s H E) (pos:=p2) ip hip (.inl hyl) hdb hcd
    have hu:(A.deeper (envOfC qual (aC st) s.heap.objs.size f (.ref cC))).units+64 < cLine:=by have:=hr.un;omega
    have pe:=ajD (X:=eE qt (iJ P w) P w K mg base N qual (aC st) f (.ref cC) A outer s H E) (p:=p1) (pos:=p3) (kp:=kp) (T:=T) (cC:=cC) (ix:=ix) LO hr.in1.in1 hu hgs hms hix hxc hcf hC hbt rfl (hd _) hq pv rfl
    refine ⟨_,a3H (acV (pos:=p4) pe),cT N.length ds,G,R,?_,g,q,fun v H' d G' _ r1 g1 q1=>kk v H' d G' r1 g1 q1⟩
    unfold cT L2.start
    rw [r.length]
    exact SR.entry r
theorem ac3 {qt:Bool} {x qual:Str} {st:Stmt} {f:Addr} {fd:FuncData} {ps:List Str} {S:SI} {c:CB} (F:uU K x qual st f fd) (hS:bD S.N ps (aC st)) (hnc:(aC st).names.all (fun y=>y.2 != .cell)=true) (hne:ps≠[]) (hc:S.calm=!qt) (hv:vH S (aC st)=true) (hk:kB S 0 c (bI st)=true)
    (hg:∀ (j:Nat) (y:Str) (g:GT),S.gl[j]?=some (y,g)→GTs P w K mg base k y g):bY qt P w K mg base (iJ P w) (k+1) f fd ps (cO K (spD S.N.length ps.length fun EX=>mB S.gl K (fun _=>EX) c)):=by
  have z:=ajC (qt:=qt) (P:=P) (w:=w) (mg:=mg) (base:=base) (k:=k) (tb:=fun EX=>mB S.gl K (fun _=>EX) c) F hS hnc hne fun cdv A outer s H E EX hr hE=>by
    refine okB c (X:=(uY qt P w K mg base S.N qual (aC st) f cdv A outer s H E).ask) (S:=S) (ex:=fun _=>EX) (lv:=0) ?_ (bI st) hk
    refine ⟨⟨rfl,hS.nd,fun i y e1 e2=>?_,fun i y e1 e2 => .inl ((dZ hv e1).2.2.2.2 e2),fun j y g e=>?_,hr.units,fun z=>hc.symm.trans z,(anZ hE).ask,fun _=>rfl⟩,fun i y e1 e2=>(dZ hv e1).2.2.1 e2,fun i y e1 e2=>(dZ hv e1).2.2.2.1 e2,fun _ _ _ _=>rfl,fun j y a e _=>(hg j y _ e).2,fun _=>own1 (qt:=qt) (P:=P) (w:=w) (K:=K) (mg:=mg) (base:=base) (N:=S.N) (qual:=qual) (scope:=aC st) (f:=f) (cd:=cdv) (A:=A) (outer:=outer) (s₀:=s) (H₀:=H) (E:=E),fun _ _=>(ao0 hE).ask,rfl,rfl⟩
    · obtain ⟨a1,a2,a3,a4⟩:=dZ hv e1
      exact ⟨vI (a3 e2),a1,a2⟩
    · obtain ⟨a1,a2,a3⟩:=a4P hv e
      exact ⟨a1,a2,a3,a4Q ⟨rfl,rfl,rfl,rfl,rfl⟩ hr hc (hg j y g e)⟩
  refine z.imp fun vs H Q E ⟨ds,G,R,EX,r,g,⟨hl,q⟩,kk,hE⟩=>⟨ds,G,dJ R,fB EX,r,g,⟨hl,q⟩,fun v H' d G' r1 g1 ⟨G0,l,q⟩=>kk v H' d G0 r1 (g1.le l) q,zZ hE⟩
end
def lamOf (qual x:Str) (s:Stmt):tH:=match bI s with
  | [.Return (some (.Call _ _ [⟨_,.Lambda a b sc p,_⟩] _)) _]=>⟨qual ++ ".<locals>." ++ "<lambda>",a,b,sc,x,p⟩
  | _=>⟨"",gM s,.Name "" ⟨0,0,0,0⟩,aC s, "",⟨0,0,0,0⟩⟩
end L4
namespace L2
open PySem PySem.Spec PyProof.Rows PySem.W
abbrev tbs (TL:List (Addr×Addr)):List Addr:=TL.map (·.2)
def a8J (TL:List (Addr×Addr)) (H:Hp):Prop:=(∀ t∈tbs TL,H t=some (.qF #[]))∧∀ b,b ∉ tbs TL→H b=none∨∃ o xs,H b=some (.mV o (.lst xs))
def H0 (K:PySem.W.Frag) (TL:List (Addr×Addr)) (a:Addr) (o:Obj) (ns:List Int):Hp:=fun b=>if b∈tbs TL then some (.qF #[]) else if b=a∧K.lookup a=none then some (.mV o (.lst (ns.map V.int))) else none
section
variable {K:PySem.W.Frag} {TL:List (Addr×Addr)} {a:Addr} {o:Obj} {ns:List Int} {h:Heap} {vs:List Value}
theorem H0.tab {b:Addr} (hb:b∈tbs TL):H0 K TL a o ns b=some (.qF #[]):=if_pos hb
theorem H0.cases {b:Addr} {u:HO} (e:H0 K TL a o ns b=some u):(b∈tbs TL∧u = .qF #[])∨(b ∉ tbs TL∧b=a∧K.lookup a=none∧u = .mV o (.lst (ns.map V.int))):=by
  unfold H0 at e
  by_cases c:b∈tbs TL
  · rw [if_pos c] at e;cases e;exact .inl ⟨c,rfl⟩
  · rw [if_neg c] at e
    by_cases d:b=a∧K.lookup a=none
    · rw [if_pos d] at e;cases e;exact .inr ⟨c,d.1,d.2,rfl⟩
    · rw [if_neg d] at e;cases e
theorem H0.only:a8J TL (H0 K TL a o ns):=⟨fun t ht=>H0.tab ht,fun b hb=>by
  cases e:H0 K TL a o ns b with
  | none=>exact .inl rfl
  | some u =>
    rcases H0.cases e with z | z
    · exact absurd z.1 hb
    · rw [z.2.2.2];exact .inr ⟨_,_,rfl⟩⟩
theorem H0.out {b:Addr} {q:Obj} (ho:h.get? a=some o) (hd:∃ its n,o.data = .seq its n) (hT:∀ t∈tbs TL,h.get? t=some (tabObj #[])) (e:h.get? b=some q) (n1:q≠tabObj #[]) (n2:q≠o):H0 K TL a o ns b=none:=by
  cases z:H0 K TL a o ns b with
  | none=>rfl
  | some u =>
    exfalso
    rcases H0.cases z with y | y
    · rw [hT b y.1] at e
      exact n1 (Option.some.inj e).symm
    · rw [y.2.1,ho] at e
      exact n2 (Option.some.inj e).symm
end
theorem a8K {qt:Bool} {P:Program} {w:World} {K:PySem.W.Frag} {mg mb:Str→Option Value} {CX:xX} {k:Nat} {fa a:Addr} {TL:List (Addr×Addr)} {fd:FuncData} {x:Str} {sp:Sp} {s₁:Shared} {vs:List Value} {ns:List Int}
    (KX:K.In s₁.heap) (hns:s₁.heap.Ns mainGlobals mg) (hb:s₁.heap.Ns builtinsNs mb) (hbb:∀ x:Str,x ≠ "__name__" → mb x=bootBuiltins x) (hlim:s₁.heap.NoLimit) (hg:s₁.gens=#[])
    (ha:s₁.heap.get? a=some { cls := .type "list",data := .seq vs.toArray }) (hi:IntsAre vs ns) (hl:ns.length≤sizeLine) (hr:bQ qt k callerA)
    (hC:∀ p∈TL,CodeHd s₁.heap p.1 p.2∧s₁.heap.get? p.2=some (tabObj #[])∧K.lookup p.2=none) (hbm:∃ bm o,mg "__builtins__" = some (.ref bm)∧bm≠builtinsNs∧bm≠mainGlobals∧s₁.heap.get? bm=some o∧o.cls = .type "module" ∧ o.dict=some builtinsNs∧o.data = .plain)
    (F:∀ base:Heap,K.In base→base.Ns mainGlobals mg→(∀ p∈TL,base.BuiltinsAt mg p.2∧CodeHd base p.1 p.2)→bY qt P w K mg base CX k fa fd [x] sp) (hbind:∀ (s:Shared) (u:Value),BindsTo s fd ⟨[u],[]⟩ [(x,u)])
    (hsp:∀ H:Hp,a8J TL H→tE K H a (ns.map V.int)→sp [.ref a] H (fun v _=>v = .bl true) fun _ _ _=>False)
    (hCX:∀ H e s',CX [] H s₁ (fun _ _ _=>False) e s'→False) :
    codeAny (model P w) callerA (.call (.ref fa) ⟨[.ref a],[]⟩) (fun r s'=>r = .ok (.ret (.bool true))∧OldK s₁.heap s'.heap∧s'.os=s₁.os∧AllBare s'.gens) s₁:=by
  have hT:∀ t∈tbs TL,s₁.heap.get? t=some (tabObj #[]):=fun t ht=>by
    obtain ⟨p,hp,rfl⟩:=List.mem_map.mp ht
    exact (hC p hp).2.1
  have hKT:∀ t∈tbs TL,K.lookup t=none:=fun t ht=>by
    obtain ⟨p,hp,rfl⟩:=List.mem_map.mp ht
    exact (hC p hp).2.2
  have hs:∃ its n,({ cls := .type "list",data := .seq vs.toArray }:Obj).data = .seq its n:=⟨_,_,rfl⟩
  have out:∀ {b:Addr} {q:Obj},s₁.heap.get? b=some q→q≠tabObj #[]→q≠{ cls := .type "list",data := .seq vs.toArray }→(yO s₁.heap (H0 K TL a { cls := .type "list",data := .seq vs.toArray } ns)).get? b=some q:=fun e n1 n2=>a5K e (H0.out ha hs hT e n1 n2)
  have nsK:∀ {b:Addr} {m:Str→Option Value},s₁.heap.Ns b m→(yO s₁.heap (H0 K TL a { cls := .type "list",data := .seq vs.toArray } ns)).Ns b m:=fun ⟨q,es,ep,e,d,r⟩=>⟨q,es,ep,out e (fun z=>by rw [z] at d;cases d) (fun z=>by rw [z] at d;cases d),d,r⟩
  have hok:mW P w (H0 K TL a { cls := .type "list",data := .seq vs.toArray } ns) s₁.heap:=fun b u e=>by
    rcases H0.cases e with ⟨h1,rfl⟩ | ⟨_,rfl,_,rfl⟩
    · exact hT b h1
    · exact ⟨ha,by rw [List.length_map];exact hl,vs,_,wF hi,ha⟩
  have sq:tE K (H0 K TL a { cls := .type "list",data := .seq vs.toArray } ns) a (ns.map V.int):=by
    have na:a ∉ tbs TL:=fun z=>by
      have:=hT a z
      rw [ha] at this;cases this
    cases hk:K.lookup a with
    | none=>exact .inl (.inr ⟨{ cls := .type "list",data := .seq vs.toArray },(if_neg na).trans (if_pos ⟨rfl,hk⟩)⟩)
    | some q =>
      have e:=KX a q hk
      rw [ha] at e
      cases e
      exact .inr ⟨_,vs.toArray,_,hk,rfl,rfl,rfl,by rw [List.size_toArray,hi.length];exact hl,by simpa using wF hi⟩
  have hKb:K.In (yO s₁.heap (H0 K TL a { cls := .type "list",data := .seq vs.toArray } ns)):=fun b q e=>a5K (KX b q e) (by
    cases z:H0 K TL a { cls := .type "list",data := .seq vs.toArray } ns b with
    | none=>rfl
    | some u =>
      rcases H0.cases z with y | y
      · rw [hKT b y.1] at e;cases e
      · rw [y.2.1,y.2.2.1] at e;cases e)
  have hM:Mod K mg (yO s₁.heap (H0 K TL a { cls := .type "list",data := .seq vs.toArray } ns)):=⟨hKb,nsK hns,⟨mb,nsK hb,hbb⟩,hlim.elim fun mc z=>⟨mc,nsK z.1,z.2⟩⟩
  have hCb:∀ p∈TL,(yO s₁.heap (H0 K TL a { cls := .type "list",data := .seq vs.toArray } ns)).BuiltinsAt mg p.2∧CodeHd (yO s₁.heap (H0 K TL a { cls := .type "list",data := .seq vs.toArray } ns)) p.1 p.2:=fun p hp=>by
    obtain ⟨c1,c2,_⟩:=hC p hp
    obtain ⟨bm,q,b1,b2,b3,b4,b5,b6,b7⟩:=hbm
    obtain ⟨oc,vs',file,tf,flags,tg,inF,text,tt,e,d1,d2,r⟩:=c1
    refine ⟨⟨bm,q,b1,b2,b3,fun z=>?_,out b4 (fun z=>by rw [z] at b7;cases b7) (fun z=>by rw [z] at b7;cases b7),b5,b6,b7⟩,oc,vs',file,tf,flags,tg,inF,text,tt,out e (fun z=>by rw [z] at d1;cases d1) (fun z=>by rw [z] at d2;cases d2),d1,d2,r⟩
    rw [z,c2] at b4;cases b4;cases b5
  have e0:qH P w K mg (yO s₁.heap (H0 K TL a { cls := .type "list",data := .seq vs.toArray } ns)) callerA [] s₁ (H0 K TL a { cls := .type "list",data := .seq vs.toArray } ns):=⟨rfl,hM,fun b q e=>ah4 e,Nat.le_of_eq (abB _ _),trivial,fun b hb=>(List.not_mem_nil (show b∈([]:List Addr) from hb)).elim,hok,.of_eq hg,.inl rfl⟩
  refine codeAny_mono ((F _ hKb (nsK hns) hCb).run callerA [] s₁ _ ⟨[.ref a],[]⟩ [.ref a] [.ref a] _ _ hr e0 (hbind s₁ (.ref a)) (.cons rfl .nil) (hsp _ H0.only sq)) fun r s' h=>?_
  cases r with
  | error e=>exact (hCX _ e s' h).elim
  | ok fl =>
    cases fl with
    | ret u =>
      obtain ⟨v,H',os,bare,un,hok',r',q⟩:=h
      obtain rfl:v = .bl true:=q
      obtain rfl:u=Value.bool true:=r'
      have old:∀ b q,b ∉ tbs TL→s₁.heap.get? b=some q→s'.heap.get? b=some q:=fun b q bT e=>by
        rcases H0.only (K:=K) (TL:=TL) (a:=a) (o:={ cls := .type "list",data := .seq vs.toArray }) (ns:=ns) |>.2 b bT with z | ⟨ob,xs,z⟩
        · exact un.keep b q e z (fun y=>(List.not_mem_nil (show b∈([]:List Addr) from y)).elim) (by simp)
        · have e1:=(hok b _ z).1
          have e2:=(hok' b _ (un.cQ b ob _ z)).1
          rw [e] at e1;cases e1
          exact e2
      have tab:∀ t∈tbs TL,∃ more,s'.heap.get? t=some (tabObj (#[]++more)):=fun t ht=>by
        obtain ⟨more,e⟩:=un.m7 t _ (H0.tab ht)
        exact ⟨more,hok' t _ e⟩
      refine ⟨rfl,⟨fun b q e=>?_,fun b q e=>?_⟩,os,bare⟩
      · by_cases bT:b∈tbs TL
        · obtain ⟨more,hT'⟩:=tab b bT
          obtain ⟨p,hp,rfl⟩:=List.mem_map.mp bT
          rw [(hC p hp).2.1] at e
          cases e
          exact .inr (.inl ⟨((hC p hp).1.tab (hC p hp).2.1).isCodeTable,rfl,#[],#[]++more,rfl,by rw [Array.empty_append];simpa using hT'⟩)
        · exact .inl (old b q bT e)
      · by_cases bT:b∈tbs TL
        · obtain ⟨more,hT'⟩:=tab b bT
          exact ⟨_,hT'⟩
        · exact ⟨q,old b q bT e⟩
    | next=>exact False.elim h
    | brk=>exact False.elim h
    | cont=>exact False.elim h
theorem ac4 {qt:Bool} {l:PySem.W.OpenLaw} {n k:Nat} {q:Program} {loose:List Str} {XP:(Str→Option Value)→Heap→Prop} {YP:World→Heap→Prop} {d:DefRec} {K:Params→PySem.W.Frag} {CX:World→xX} {sp:World→Sp} {x:Str} {xs:List Str} {TL:World→List (Addr×Addr)}
    (hn:l.most=some n) (hn2:n≤sizeLine) (hdf:d.params.defaults=[]) (hr:bQ qt k callerA)
    (hY:∀ (w:World) (h:Heap),YP w h→(K w.params).In h) (hdm:∀ y∈xs,((recsOf q).find? (fun e=>e.name == y)).isSome=true) (ht:∀ w,∀ p∈TL w,∃ y∈xs,tabIn (K w.params) y=some p) (hKT:∀ w,∀ p∈TL w,(K w.params).lookup p.2=none)
    (F:∀ (w:World) (mg:Str→Option Value) (fa:Addr) (h:Heap),(K w.params).In h→h.Ns mainGlobals mg→mg d.name=some (.ref fa) →
      ∃ fd:FuncData,(∀ (s:Shared) (u:Value),BindsTo s fd ⟨[u],[]⟩ [(x,u)]) ∧
        ∀ base:Heap,(K w.params).In base→base.Ns mainGlobals mg→(∀ p∈TL w,base.BuiltinsAt mg p.2∧CodeHd base p.1 p.2)→bY qt l.prog w (K w.params) mg base (CX w) k fa fd [x] (sp w))
    (hsp:∀ (w:World) (H:Hp) (a:Addr) (ns:List Int),ns.length≤n→a8J (TL w) H→tE (K w.params) H a (ns.map V.int)→sp w [.ref a] H (fun v _=>v = .bl true) fun _ _ _=>False)
    (hCX:∀ (w:World) (H:Hp) (s:Shared) (e:Value) (s':Shared),CX w [] H s (fun _ _ _=>False) e s'→False) :
    PySem.W.WalkO q loose XP YP l.row.toRowW d [] (fun f vs=>PySem.call f vs):=by
  refine Att.a5T hn hdf fun w s₀ s₁ mg mb fa o pm cd doc a vs ns G Y ho hd hcd hmg hobj hints hlen hg=>?_
  have KX:=hY w _ Y
  obtain ⟨fd,hb,hF⟩:=F w mg fa _ KX G.T.g hmg
  obtain ⟨bm,ob,b1,b2,b3,b4,b5,b6⟩:=G.T.bmain
  have bG:bm≠mainGlobals:=fun z=>by
    obtain ⟨o,es,ep,e,hd,_⟩:=G.T.g
    rw [z,e] at b3;cases b3;rw [hd] at b6;cases b6
  refine a8K (TL:=TL w) KX G.T.g G.T.b G.T.builtins G.T.nolimit hg hobj hints (Nat.le_trans hlen hn2) hr (fun p hp=>?_) ⟨bm,ob,b1,b2,bG,b3,b4,b5,b6⟩ hF hb (fun H hO hS=>hsp w H a ns hlen hO hS) fun H e s'=>hCX w H s₁ e s'
  obtain ⟨y,hy,e⟩:=ht w p hp
  obtain ⟨dm,hdm⟩:=Option.isSome_iff_exists.mp (hdm y hy)
  obtain ⟨t1,t2⟩:=tab_of G.T KX hdm e
  exact ⟨t1,t2,hKT w p hp⟩
end L2
namespace L4
open PySem PySem.Spec PyProof.Rows L2
theorem gln {P:Str→GT→Prop}:∀ (j:Nat) (y:Str) (g:GT),([]:List (Str×GT))[j]?=some (y,g)→P y g:=fun j y g h=>by simp at h
theorem uL {P:Str→GT→Prop} {x:Str} {g:GT} {l:List (Str×GT)} (h:P x g) (r:∀ (j:Nat) (y:Str) (g:GT),l[j]?=some (y,g)→P y g):∀ (j:Nat) (y:Str) (g':GT),((x,g) :: l)[j]?=some (y,g')→P y g'
  | 0,y,g',e=>by simp at e;obtain ⟨e1,e2⟩:=e;subst e1;subst e2;exact h
  | j+1,y,g',e=>r j y g' (by simpa using e)
section
variable {P:Program} {w:World} {K:Fg} {mg:Str→Option Value} {base:Heap} {k:Nat} {x:Str}
theorem gcT {ds:List D} (h:∃ a,mg x=some (.ref a)∧∀ H,RD K H (.tup ds) (.ref a)):GTs P w K mg base k x (.con (.tup ds)):=by
  obtain ⟨a,h,r⟩:=h
  exact ⟨_,.ref a,h,rfl,r⟩
end
theorem aq1 {K:Fg} {a:Addr} {its:Array Value} {n:Nat} {sl:Array (Option Value)} {xs:List V} {ds:List D} (h:K.lookup a=some ⟨.type "tuple",none,.seq its n,sl⟩) (hz:its.size≤sizeLine) (v:Vals xs its.toList) (r:∀ H,bF K H ds xs) (H:Hp):RD K H (.tup ds) (.ref a) :=
  .tup (.inr ⟨_,its,n,h,rfl,rfl,rfl,hz,v⟩) (r H) trivial
theorem a00:bootBuiltins "range" = some (.type "range"):=by decide +kernel
end L4
namespace L4
open PySem PySem.Spec PyProof.Rows L2
theorem aaH {K:Fg} {fd:FuncData} {ps:List Str} (h:∀ us:List Value,us.length=ps.length→bindArgs fd ⟨us,[]⟩=pure (ps.zip us)):Binds K fd ps []:=Binds.all h
end L4
namespace L5
open PySem PySem.Spec PyProof.Rows L2 L4
def onB (x:D) (f:Bool→Prop):Prop:=match x with
  | .bl k=>f k
  | _=>False
def onI (x:D) (f:Int→Prop):Prop:=match x with
  | .int k=>f k
  | _=>False
theorem aq2 {k:Bool} {f:Bool→Prop}:onB (.bl k) f=f k:=rfl
theorem ajY {k:Int} {f:Int→Prop}:onI (.int k) f=f k:=rfl
def vJ (xs:List D):Prop:=xs.length≤sizeLine
theorem aq3:vJ []=True:=eq_true (show 0≤sizeLine by decide)
theorem aq4 {a0:D}:vJ [a0]=True:=eq_true (show 1≤sizeLine by decide)
theorem aq5 {a0 a1:D}:vJ [a0,a1]=True:=eq_true (show 2≤sizeLine by decide)
theorem aq6 {a0 a1 a2:D}:vJ [a0,a1,a2]=True:=eq_true (show 3≤sizeLine by decide)
theorem aq7 {a0 a1 a2 a3 a4:D}:vJ [a0,a1,a2,a3,a4]=True:=eq_true (show 5≤sizeLine by decide)
theorem aq8 {a0 a1 a2 a3 a4 a5:D}:vJ [a0,a1,a2,a3,a4,a5]=True:=eq_true (show 6≤sizeLine by decide)
section
variable {t u:bK} {F:dH} {ρ:aQ} {G:Gp} {R:dG} {te ta tb tc:bL} {tt tt':rZ} {tA:lO} {K:Fg}
theorem alS:aU t u F ρ G=t { F with nx:=u F } ρ G:=rfl
theorem aq9:cU F ρ G=F.nx ρ G:=rfl
theorem aqA:qR te F ρ G=te ρ G fun _ G1=>F.nx ρ G1:=rfl
theorem avI:gA te F ρ G=te ρ G F.rt:=rfl
theorem avJ:jR tt t u F ρ G=tt ρ G fun b G1=>if b=true then t F ρ G1 else u F ρ G1:=rfl
theorem avK {i:Nat}:bB i te F ρ G=te ρ G fun x G1=>F.nx (wH ρ i x) G1:=rfl
theorem x_raise {EX:aQ→aY} {C:Addr}:sE EX C tA F ρ G=tA ρ G fun ds G1=>vJ ds∧EX ρ C G1:=rfl
theorem x_c {d:D}:bA d ρ G R=R d G:=rfl
theorem aqB {d:D}:aB 0 (some d :: ρ) G R=R d G:=rfl
theorem aqC {o:Option D} {n:Nat}:aB (n+1) (o :: ρ) G R=aB n ρ G R:=rfl
theorem afN {o:Option D} {d:D}:wH (o :: ρ) 0 d=some d :: ρ:=rfl
theorem afO {o:Option D} {n:Nat} {d:D}:wH (o :: ρ) (n+1) d=o :: wH ρ n d:=rfl
theorem afP {o:Option D}:aiJ (o :: ρ) 0=none :: ρ:=rfl
theorem afQ {o:Option D} {n:Nat}:aiJ (o :: ρ) (n+1)=o :: aiJ ρ n:=rfl
theorem azG {r:R3}:aJ r ta tb ρ G R=ta ρ G fun x G1=>tb ρ G1 fun y G2=>r x y G2 R:=rfl
theorem aqD {Q:Bool→Gp→Prop}:bM te ρ G Q=te ρ G fun x G1=>onB x fun k=>Q k G1:=rfl
theorem avL {Q:Bool→Gp→Prop}:a5W tt tt' ρ G Q=tt ρ G fun c G1=>if c=true then tt' ρ G1 Q else Q false G1:=rfl
theorem azH {Q:Bool→Gp→Prop}:a80 tt tt' ρ G Q=tt ρ G fun c G1=>if c=true then Q true G1 else tt' ρ G1 Q:=rfl
theorem avM {Q:Bool→Gp→Prop}:a5X tt ρ G Q=tt ρ G fun c G1=>Q (!c) G1:=rfl
theorem aqE:zH ta tb ρ G R=ta ρ G fun x G1=>onB x fun k=>if k=true then tb ρ G1 R else R (.bl false) G1:=by
  unfold zH;congr 1;funext x G1
  cases x with
  | bl k=>cases k <;> rfl
  | _=>rfl
theorem avN:a66 ta ρ G R=ta ρ G fun x G1=>onI x fun k=>R (.int (-k)) G1:=rfl
theorem avO:abO tt ta tb ρ G R=tt ρ G fun c G1=>if c=true then ta ρ G1 R else tb ρ G1 R:=rfl
theorem avP {Q:List D→Gp→Prop}:aK ρ G Q=Q [] G:=rfl
theorem aqF {Q:List D→Gp→Prop}:aA te tA ρ G Q=te ρ G fun x G1=>tA ρ G1 fun xs G2=>Q (x :: xs) G2:=rfl
theorem avQ:pK tA ρ G R=tA ρ G fun xs G1=>vJ xs∧R (.tup xs) G1:=rfl
theorem avR:pL tA ρ G R=tA ρ G fun xs G1=>vJ xs∧∀ p,G1 p=none→R (.ref p) (aL G1 p (.lst xs)):=rfl
theorem avS:a4C ρ G R=∀ p,G p=none→R (.ref p) (aL G p (.iI false [])):=rfl
theorem x_call {sp:jT} {ex:aQ→aY}:bZ sp ex tA ρ G R=tA ρ G fun ds G1=>sp ds G1 R (ex ρ):=rfl
theorem azI {r:List D→Gp→dG→Prop}:qY r tA ρ G R=tA ρ G fun xs G1=>r xs G1 R:=rfl
theorem x_m {T:String} {r:xU}:tM3 T r te tA ρ G R=te ρ G fun x G1=>a1F T G1 x∧tA ρ G1 fun xs G2=>r x xs G2 R:=rfl
theorem ajZ {z:Str}:a1F "str" G (.str z)=True:=eq_true rfl
theorem oJ {p:Addr}:a1F "list" G (.ref p)=((aZ G p).isSome=true):=by unfold a1F;simp
theorem afR {Q:Option Int→Gp→Prop}:nA ρ G Q=Q none G:=rfl
theorem aqG {Q:Option Int→Gp→Prop}:wI te ρ G Q=te ρ G fun x G1=>onI x fun k=>Q (some k) G1:=rfl
theorem ak0 {tl th:TO3}:sG te tl th ρ G R=te ρ G fun x G1=>tl ρ G1 fun lo G2=>th ρ G2 fun hi G3=>adZ x lo hi G3 R:=rfl
theorem afS {i j:Int}:dI (.int i) (.int j) G R=R (.int (i+j)) G:=rfl
theorem afT {i j:Str}:dI (.str i) (.str j) G R=(i.length+j.length≤sizeLine∧R (.str (i++j)) G):=rfl
theorem avT {i j:Int}:a2C (.int i) (.int j) G R=R (.int (i - j)) G:=rfl
theorem alT {i j:Int}:qQ (.int i) (.int j) G R=(ad0 i j∧R (.int (i * j)) G):=rfl
theorem aqH {i j:Int}:cF (.int i) (.int j) G R=(amQ i j∧R (.int (i / j)) G):=rfl
theorem avU {i j:Int}:cA (.int i) (.int j) G R=(0 < j∧R (.int (i % j)) G):=rfl
theorem x_lt {i j:Int}:adM (.int i) (.int j) G R=R (.bl (decide (i < j))) G:=rfl
theorem azJ {i j:Int}:adN (.int i) (.int j) G R=R (.bl (decide (j < i))) G:=rfl
theorem ak1 {i j:Int}:v7 (.int i) (.int j) G R=R (.bl (i == j)) G:=by
  show (aO 20 (.int i)=true∧aO 20 (.int j)=true∧_)=_
  simp [aO,eqP]
theorem ak2 {i j:Int}:a82 (.int i) (.int j) G R=R (.bl (!(i == j))) G:=by
  show (aO 20 (.int i)=true∧aO 20 (.int j)=true∧_)=_
  simp [aO,eqP]
theorem ak3 {i j:Str}:v7 (.str i) (.str j) G R=R (.bl (i == j)) G:=by
  show (aO 20 (.str i)=true∧aO 20 (.str j)=true∧_)=_
  simp [aO,eqP]
theorem sO {q:Addr} {ds:List D} (h:aZ G q=some ds):tL [.ref q] G R=R (.int ds.length) G:=by unfold tL;simp only [h]
theorem ak4 {b:Bool}:a9S [.bl b] G R=R (.int (if b then 1 else 0)) G:=rfl
theorem a4R {xs:List D} {i:Int} {d:D} (h:uK xs i=some d):bN (.tup xs) (.int i) G R=R d G:=by unfold bN;simp only [h]
theorem oK {p:Addr} {xs:List D} {i:Int} {d:D} (e:aZ G p=some xs) (h:uK xs i=some d):bN (.ref p) (.int i) G R=R d G:=by unfold bN;simp only [e,h]
theorem a6X {z:Str}:cB K [(.str z),.ty "str"] G R=R (.bl true) G:=by
  show ("str" ∈ a3Y∧R (.bl (L2.subB "str" "str")) G)=_
  rw [show L2.subB "str" "str" = true from by decide];simp [a3Y]
theorem a3Z {q C C':Addr} {b:Bool} (h:G q=some (.exn C)) (e:ExC K C) (k:PySem.W.kitOne K (.ref C) (.ref C')=some b) (z:R (.bl b) G):cB K [.ref q,.ref C'] G R:=by
  unfold cB
  simp only [exD,h]
  exact ⟨b,e,k,z⟩
end
theorem aM {G:Gp} {p:Addr} {xs:List D} (h:G p=some (.lst xs)):aZ G p=some xs:=by unfold aZ;rw [h]
theorem rC {G:Gp} {p:Addr} {xs:List D} (h:G p=some (.rol xs)):aZ G p=some xs:=by unfold aZ;rw [h]
theorem kJ {G:Gp} {p:Addr} {xs:List D}:aZ (aL G p (.lst xs)) p=some xs:=aM aF
def kn (G:Gp) (d:D):Prop:=(tyD G d).isSome=true
section
variable {G:Gp} {R:dG} {K:Fg} {q:Addr}
theorem aqI {x:D} {T n:String} (e:tyD G x=some T) (hn:n∈a3Y):cB K [x,.ty n] G R=R (.bl (L2.subB T n)) G:=by
  show (match tyD G x with
    | some T=>n∈a3Y∧R (.bl (L2.subB T n)) G
    | none=>_)=_
  rw [e]
  exact propext ⟨fun h=>h.2,fun h=>⟨hn,h⟩⟩
theorem at0 {α:Type} {a:α} {xs:List α}:uK (a :: xs) 0=some a:=by
  unfold uK ixN
  simp
theorem atS {α:Type} {a:α} {xs:List α} {n:Nat}:uK (a :: xs) ((n+1:Nat):Int)=uK xs (n:Int):=by
  unfold uK ixN
  have h0:(0:Int)≤((n+1:Nat):Int):=by omega
  have h1:(0:Int)≤(n:Int):=by omega
  rw [if_pos h0,if_pos h1]
  by_cases h:n < xs.length
  · have a1:((n+1:Nat):Int) < ((a :: xs).length:Int):=by simp;omega
    have a2:(n:Int) < (xs.length:Int):=by omega
    rw [if_pos a1,if_pos a2]
    simp
  · have a1:¬ ((n+1:Nat):Int) < ((a :: xs).length:Int):=by simp;omega
    have a2:¬ (n:Int) < (xs.length:Int):=by omega
    rw [if_neg a1,if_neg a2]
    rfl
theorem uD {α:Type} {xs:List α} {n:Nat}:uK xs (n:Int)=xs[n]?:=by
  unfold uK ixN
  rw [if_pos (by omega)]
  by_cases h:n < xs.length
  · rw [if_pos (by omega)];simp
  · rw [if_neg (by omega)]
    simp at h
    simp [h]
theorem ak5 {a:D} {xs:List D}:bN (.tup (a :: xs)) (.int 0) G R=R a G:=a4R at0
theorem ak6 {a b:D} {xs:List D}:bN (.tup (a :: b :: xs)) (.int 1) G R=R b G:=a4R (i:=((1:Nat):Int)) (by rw [atS,uD];rfl)
theorem ak7 {a b c:D} {xs:List D}:bN (.tup (a :: b :: c :: xs)) (.int 2) G R=R c G:=a4R (i:=((2:Nat):Int)) (by rw [atS,uD];rfl)
end
theorem a3B (x:Str) {a b:Nat} (hab:a≤b) (hb:b≤x.length):Txt.slice x (some (a:Int)) (some (b:Int))=⟨((x.cps.toList.drop a).take (b - a)).toArray⟩:=by
  exact PySem.StrLaws.sliceText_nat x hab hb
theorem a8L (x:Str) {a:Nat} (h:a≤x.length):Txt.slice x (some (a:Int)) none=⟨(x.cps.toList.drop a).toArray⟩:=by
  have e:Txt.slice x (some (a:Int)) none=Txt.slice x (some (a:Int)) (some (x.length:Int)):=by
    unfold Txt.slice
    rw [PySem.StrLaws.sliceIdx_none_hi]
  rw [e,a3B x h (Nat.le_refl _)]
  congr 2
  apply List.take_of_length_le
  simp [Str.length]
theorem afU (x:Str) {b:Nat} (h:b≤x.length):Txt.slice x none (some (b:Int))=⟨(x.cps.toList.take b).toArray⟩:=by
  have e:Txt.slice x none (some (b:Int))=Txt.slice x (some ((0:Nat):Int)) (some (b:Int)):=by
    unfold Txt.slice
    rw [PySem.StrLaws.sliceIdx_none_lo]
    rfl
  rw [e,a3B x (Nat.zero_le _) h]
  simp
section
variable {G:Gp} {R:dG} {K:Fg} {q:Addr}
end
section
variable {G:Gp} {R:dG} {K:Fg}
theorem a01 {a b:Addr} {xs ys:List D} (h1:aZ G a=some xs) (h2:aZ G b=some ys) (s1:xs.all (aO 20)=true) (s2:ys.all (aO 20)=true):v7 (.ref a) (.ref b) G R=R (.bl (j4 xs ys)) G:=by
  show eqG G (.ref a) (.ref b) (fun b=>R (.bl b) G)=_
  unfold eqG
  simp only [h1,h2,s1,s2,true_and]
theorem a02 {a b:Addr} {xs ys:List D} (h1:aZ G a=some xs) (h2:aZ G b=some ys) (s1:xs.all (aO 20)=true) (s2:ys.all (aO 20)=true):a82 (.ref a) (.ref b) G R=R (.bl (!j4 xs ys)) G:=by
  show eqG G (.ref a) (.ref b) (fun b=>R (.bl (!b)) G)=_
  unfold eqG
  simp only [h1,h2,s1,s2,true_and]
end
section
variable {G:Gp} {R:dG} {K:Fg} {i j:Int}
theorem aqJ (h:-18446744073709551616 < i∧i < 18446744073709551616):qQ (.int i) (.int j) G R=R (.int (i * j)) G:=by
  rw [alT]
  exact propext ⟨fun z=>z.2,fun z=>⟨.inl ⟨by have:=h.1;omega,by have:=h.2;omega⟩,z⟩⟩
theorem aqK (h:-18446744073709551616 < j∧j < 18446744073709551616):qQ (.int i) (.int j) G R=R (.int (i * j)) G:=by
  rw [alT]
  exact propext ⟨fun z=>z.2,fun z=>⟨.inr ⟨by have:=h.1;omega,by have:=h.2;omega⟩,z⟩⟩
theorem ak8 (h:0 < j∧j < 1073741824):cF (.int i) (.int j) G R=R (.int (i / j)) G:=by
  rw [aqH]
  exact propext ⟨fun z=>z.2,fun z=>⟨h,z⟩⟩
theorem aqL (h:0 < j):cA (.int i) (.int j) G R=R (.int (i % j)) G:=by
  rw [avU]
  exact propext ⟨fun z=>z.2,fun z=>⟨h,z⟩⟩
end
section
variable {G:Gp} {R:dG} {K:Fg} {i j:Int}
end
section
variable {P Q:Prop} {b c:Bool} {α:Type} {a:α} {l:List α}
theorem a8M:(True∧P)=P:=true_and P
theorem a8N:(!true)=false:=rfl
theorem afV:((!b)=true)=(b=false):=by cases b <;> simp
theorem ac6:(if True then P else Q)=P:=if_true ..
theorem a8O:(if False then P else Q)=Q:=if_false ..
theorem avV:(false=true)=False:=by simp
theorem avW:(true=false)=False:=by simp
theorem a8P:(a :: l).length=l.length+1:=List.length_cons
theorem ac7:([]:List α).length=0:=rfl
theorem ac8 {β:Type} {f:α→β}:(l.map f).length=l.length:=List.length_map ..
end
end L5
namespace L6
open PySem PySem.Spec PyProof.Rows L2 L4 L5
def aqM (x:D) (G:Gp) (Q:Src→Gp→Prop):Prop:=match x with
  | .ref p=>(match aZ G p with
    | some xs=>Q (.lst p xs) G
    | none=>False)
  | .tup xs=>Q (.imm xs) G
  | .str z=>Q (.imm (signs z)) G
  | _=>False
def afW (x:D) (G:Gp) (Q:Src→Gp→Prop):Prop:=match x with
  | .ref p=>(match aZ G p with
    | some xs=>Q (.lst p xs) G
    | none=>False)
  | .str z=>Q (.imm (signs z)) G
  | .tup xs=>xs.all scD=true∧∀ a,(G a=none∨G a=some (.tpl xs))→Q (.tpl a xs) (aL G a (.tpl xs))
  | _=>False
def alU (xs:List D) (G:Gp) (Q:Src→Gp→Prop):Prop:=match xs with
  | [.int j]=>-(2 ^ 62)≤j∧j < 2 ^ 62∧Q (.imm (a1G 0 j)) G
  | _=>False
section
variable {te:bL} {ta:lO} {ρ:aQ} {G:Gp} {Q:Src→Gp→Prop} {p:Addr} {xs:List D} {z:Str} {i j:Int}
theorem ak9:wM te ρ G Q=te ρ G fun x G1=>aqM x G1 Q:=rfl
theorem avX:a89 te ρ G Q=te ρ G fun x G1=>afW x G1 Q:=rfl
theorem aqN:rB ta ρ G Q=ta ρ G fun xs G1=>alU xs G1 Q:=rfl
theorem a03 (h:aZ G p=some xs):aqM (.ref p) G Q=Q (.lst p xs) G:=by unfold aqM;simp only [h]
theorem wV (h:aZ G p=some xs):afW (.ref p) G Q=Q (.lst p xs) G:=by unfold afW;simp only [h]
theorem akA (h:-4611686018427387904≤j∧j < 4611686018427387904):alU [.int j] G Q=Q (.imm (a1G 0 j)) G:=by
  show (_∧_∧_)=_
  exact propext ⟨fun z=>z.2.2,fun z=>⟨by omega,by omega,z⟩⟩
end
def aaI (dv:D→Option (List D)) (src:Src) (tc:rZ) (te:bL) (ρ:aQ) (G1:Gp) (R:dG):Prop:=src.items.length < sizeLine∧∀ p,G1 p=none→∃ P:Nat→List D→Gp→Prop,P 0 [] (aL G1 p (.lst [])) ∧
  (∀ k ds G,k≤src.items.length→P k ds G→src.ok G∧G p=some (.lst ds)∧ds.length≤k) ∧
  (∀ k d ds G,src.items[k]?=some d→P k ds G→∃ ys,dv d=some ys∧tc (ys.map some++ρ) G fun b G2=>if b=true then te (ys.map some++ρ) G2 fun y G3=>G3 p=some (.lst ds)∧P (k+1) (ds++[y]) (aL G3 p (.lst (ds++[y]))) else P (k+1) ds G2) ∧
  ∀ ds G,P src.items.length ds G→∃ G0,Le G0 G∧R (.ref p) G0
theorem aqO {dv:D→Option (List D)} {ti:TI3} {tc:rZ} {te:bL} {ρ:aQ} {G:Gp} {R:dG}:v9 dv ti tc te ρ G R=ti ρ G fun src G1=>aaI dv src tc te ρ G1 R:=rfl
theorem a4S {G G':Gp} (l:Le G G') {p:Addr} {xs:List D} (h:aZ G p=some xs):aZ G' p=some xs:=by
  unfold aZ at h ⊢
  split at h
  · rename_i e;rw [l _ _ e];exact h
  · rename_i e;rw [l _ _ e];exact h
  · cases h
theorem avY {G G':Gp} (l:Le G G') {src:Src} (h:src.ok G):src.ok G':=by
  cases src with
  | lst p xs=>exact a4S l h
  | imm xs=>trivial
  | zip p q xs ys=>exact ⟨a4S l h.1,a4S l h.2⟩
  | itm p o kvs=>exact l _ _ h
  | key p o t kvs=>exact l _ _ h
  | tpl p xs=>exact l _ _ h
  | enu p xs=>exact l _ _ h
theorem aqP {G G':Gp} {p:Addr} {o o':GO} (l:Le (aL G p o) G'):Le (aL G p o') (aL G' p o'):=fun a u e=>by
  by_cases h:a=p
  · subst h;rw [aF] at e ⊢;exact e
  · rw [aP h] at e ⊢
    exact l a u (by rw [aP h];exact e)
theorem a6Y {dv:D→Option (List D)} {src:Src} {tc:rZ} {te:bL} {ρ:aQ} {G:Gp} {R:dG} (v:D→List D) (c:D→Bool) (f:D→D) (hl:src.items.length < sizeLine) (hok:src.ok G) (hv:∀ d∈src.items,dv d=some (v d))
    (hc:∀ d∈src.items,∀ G',Le G G'→∀ Q:Bool→Gp→Prop,(∀ G'',Le G' G''→Q (c d) G'')→tc ((v d).map some++ρ) G' Q)
    (he:∀ d∈src.items,c d=true→∀ G',Le G G'→∀ Q:D→Gp→Prop,(∀ G'',Le G' G''→Q (f d) G'')→te ((v d).map some++ρ) G' Q)
    (h:∀ p,G p=none→R (.ref p) (aL G p (.lst ((src.items.filter c).map f)))):aaI dv src tc te ρ G R:=by
  refine ⟨hl,fun p hp=>⟨fun k ds G'=>ds=((src.items.take k).filter c).map f∧Le (aL G p (.lst ds)) G',⟨rfl,.refl _⟩,fun k ds G' hk ⟨e,l⟩=>?_,fun k d ds G' hd ⟨e,l⟩=>?_,fun ds G' ⟨e,l⟩=>?_⟩⟩
  · refine ⟨avY ((Le.new hp).trans l) hok,l p _ aF,?_⟩
    rw [e,List.length_map]
    exact Nat.le_trans (List.length_filter_le _ _) (by rw [List.length_take];omega)
  · have hm:d∈src.items:=List.mem_of_getElem? hd
    have ht:src.items.take (k+1)=src.items.take k++[d]:=by
      rw [List.take_succ,hd];rfl
    refine ⟨v d,hv d hm,hc d hm G' ((Le.new hp).trans l) _ fun G2 l2=>?_⟩
    cases hcd:c d with
    | true =>
      rw [if_pos rfl]
      refine he d hm hcd G2 (((Le.new hp).trans l).trans l2) _ fun G3 l3=>?_
      have l4:=(l.trans l2).trans l3
      refine ⟨l4 p _ aF,?_,aqP l4⟩
      rw [ht,List.filter_append,List.map_append,← e]
      simp [hcd]
    | false =>
      rw [if_neg (by decide)]
      refine ⟨?_,l.trans l2⟩
      rw [ht,List.filter_append,List.map_append,← e]
      simp [hcd]
  · rw [List.take_length] at e
    subst e
    exact ⟨_,l,h p hp⟩
theorem akB {src:Src} {tc:rZ} {te:bL} {ρ:aQ} {G:Gp} {R:dG} (c:D→Bool) (f:D→D) (hl:src.items.length < sizeLine) (hok:src.ok G)
    (hc:∀ d∈src.items,∀ G',Le G G'→∀ Q:Bool→Gp→Prop,(∀ G'',Le G' G''→Q (c d) G'')→tc (some d :: ρ) G' Q)
    (he:∀ d∈src.items,c d=true→∀ G',Le G G'→∀ Q:D→Gp→Prop,(∀ G'',Le G' G''→Q (f d) G'')→te (some d :: ρ) G' Q)
    (h:∀ p,G p=none→R (.ref p) (aL G p (.lst ((src.items.filter c).map f)))):aaI a86 src tc te ρ G R:=a6Y (fun d=>[d]) c f hl hok (fun _ _=>rfl) hc he h
theorem comp_map {src:Src} {te:bL} {ρ:aQ} {G:Gp} {R:dG} (f:D→D) (hl:src.items.length < sizeLine) (hok:src.ok G)
    (he:∀ d∈src.items,∀ G',Le G G'→∀ Q:D→Gp→Prop,(∀ G'',Le G' G''→Q (f d) G'')→te (some d :: ρ) G' Q)
    (h:∀ p,G p=none→R (.ref p) (aL G p (.lst (src.items.map f)))):aaI a86 src wO te ρ G R :=
  akB (fun _=>true) f hl hok (fun d _ G' _ Q h=>h G' (.refl _)) (fun d hd _=>he d hd) fun p hp=>by
    have:src.items.filter (fun _=>true)=src.items:=List.filter_eq_self.mpr fun _ _=>rfl
    rw [this]
    exact h p hp
def afX (src:Src) (tg:TG3) (tb:bK) (F:dH) (ρ:aQ) (G1:Gp):Prop:=∃ P:Nat→aQ→Gp→Prop,P 0 ρ G1∧(∀ k ρ G,k≤src.items.length→P k ρ G→src.ok G) ∧
  (∀ k d ρ G,src.items[k]?=some d→P k ρ G→tg d ρ fun ρ2=>tb { F with nx:=P (k+1),ct:=P (k+1),bk:=F.nx } ρ2 G)∧∀ ρ G,P src.items.length ρ G→F.nx ρ G
theorem afY {ti:TI3} {tg:TG3} {tb:bK} {F:dH} {ρ:aQ} {G:Gp}:mD ti tg tb F ρ G=ti ρ G fun src G1=>afX src tg tb F ρ G1:=rfl
theorem akC {i:Nat} {d:D} {ρ:aQ} {Q:aQ→Prop}:m9 i d ρ Q=Q (wH ρ i d):=rfl
theorem a8Q {is:List Nat} {ds:List D} {ρ:aQ} {Q:aQ→Prop} (h:ds.length=is.length):a2J is (.tup ds) ρ Q=Q (xG ρ is ds):=propext ⟨fun z=>z.2,fun z=>⟨h,z⟩⟩
theorem akD {is:List Nat} {ρ:aQ}:xG ρ is []=ρ:=by cases is <;> rfl
theorem aaJ {i:Nat} {is:List Nat} {d:D} {ds:List D} {ρ:aQ}:xG ρ (i :: is) (d :: ds)=xG (wH ρ i d) is ds:=rfl
theorem a04 {tg:TG3} {tb:bK} {F:dH} {ρ:aQ} {G:Gp} {j:Int} (P:Nat→aQ→Gp→Prop) (h0:P 0 ρ G)
    (hb:∀ (k:Nat) ρ G,(k:Int) < j→P k ρ G→tg (.int k) ρ fun ρ2=>tb { F with nx:=P (k+1),ct:=P (k+1),bk:=F.nx } ρ2 G) (he:∀ ρ G,P j.toNat ρ G→F.nx ρ G):afX (.imm (a1G 0 j)) tg tb F ρ G:=by
  have hlen:(Src.imm (a1G 0 j)).items.length=j.toNat:=by simp [Src.items,a1G]
  refine ⟨P,h0,fun _ _ _ _ _=>trivial,fun k d ρ G hd p=>?_,fun ρ G p=>he ρ G (hlen ▸ p)⟩
  have hk:k < j.toNat:=by rw [← hlen];exact (List.getElem?_eq_some_iff.mp hd).1
  have e:d = .int k:=by
    have:(a1G 0 j)[k]?=some d:=hd
    unfold a1G at this
    rw [List.getElem?_map,List.getElem?_range (by omega)] at this
    simp at this
    exact this.symm
  subst e
  exact hb k ρ G (by omega) p
theorem a05 {tg:TG3} {tb:bK} {F:dH} {ρ:aQ} {G:Gp} {q:Addr} {xs:List D} (P:Nat→aQ→Gp→Prop) (h0:P 0 ρ G) (hs:∀ k ρ G,P k ρ G→aZ G q=some xs)
    (hb:∀ k d ρ G,xs[k]?=some d→P k ρ G→tg d ρ fun ρ2=>tb { F with nx:=P (k+1),ct:=P (k+1),bk:=F.nx } ρ2 G) (he:∀ ρ G,P xs.length ρ G→F.nx ρ G):afX (.lst q xs) tg tb F ρ G :=
  ⟨P,h0,fun k ρ G _ p=>hs k ρ G p,hb,he⟩
section
variable {G:Gp} {R:dG}
theorem vK {p:Addr} {ds:List D} {d:D} (h:G p=some (.lst ds)) (hl:ds.length < sizeLine):iD (.ref p) [d] G R=R .non (aL G p (.lst (ds++[d]))):=by
  unfold iD
  simp only [h,hl,true_and]
theorem alV {p b:Addr} {ds es:List D} (h:G p=some (.lst ds)) (h2:G b=some (.lst es)) (hl:ds.length+es.length≤sizeLine):dI (.ref p) (.ref b) G R=∀ q,G q=none→R (.ref q) (aL G q (.lst (ds++es))):=by
  unfold dI
  simp only [h,h2,hl,true_and]
theorem afZ {q:Addr} {ds:List D} (h:aZ G q=some ds):zL [.ref q] G R=∀ l,G l=none→R (.ref l) (aL G l (.lst ds)):=by
  unfold zL
  simp only [h]
end
theorem mF {G:Gp} {a p:Addr} {o:GO} (h:G a=some o) (n:G p=none):a≠p:=fun e=>by subst e;rw [h] at n;cases n
theorem len_app {x y:Str}:(x++y).length=x.length+y.length:=by
  show (x.cps++y.cps).size=x.cps.size+y.cps.size
  simp
theorem ac9 {G:Gp} {R:dG} {i j:Str} (h:i.length+j.length≤sizeLine):dI (.str i) (.str j) G R=R (.str (i++j)) G:=by
  rw [afT]
  exact propext ⟨fun z=>z.2,fun z=>⟨h,z⟩⟩
section
variable {G:Gp} {R:dG} {F:dH} {ρ:aQ}
theorem aqQ {is:List Nat} {te:bL}:a4G is te F ρ G=te ρ G fun d G1=>a2J is d ρ fun ρ2=>F.nx ρ2 G1:=rfl
theorem akE {c:rZ} {tb:bK}:yD c tb F ρ G=∃ W:Nat→aQ→Gp→Prop,(∃ m,W m ρ G)∧∀ m ρ G,W m ρ G→c ρ G fun b G1=>if b=true then tb { F with nx:=fun ρ' G'=>∃ m',m' < m∧W m' ρ' G',ct:=fun ρ' G'=>∃ m',m' < m∧W m' ρ' G',bk:=F.nx } ρ G1 else F.nx ρ G1:=rfl
end
end L6
namespace L7
open PySem PySem.Spec PyProof.Rows L2 L4 L5 L6
section
variable {ρ:aQ} {G:Gp} {R:dG} {F:dH} {p:Addr}
theorem aqR:yC ρ G R=∀ p,G p=none→R (.ref p) (aL G p (.iI true [])):=rfl
end
end L7
namespace L8
open PySem PySem.Spec PyProof.Rows L2 L4 L5 L6 L7
section
variable {ρ:aQ} {G:Gp} {R:dG} {F:dH} {p C:Addr} {f m:Str} {fs:List (Str×D)}
theorem azK {r:xU} {to:bL} {t:lO}:aeO r to t ρ G R=to ρ G fun x G1=>oG x G1∧t ρ G1 fun xs G2=>r x xs G2 R:=rfl
theorem akF {to te tf:bL}:yF to te tf ρ G R=to ρ G fun x G1=>oG x G1∧te ρ G1 fun y G2=>tf ρ G2 fun z G3=>nF x y G3 fun _ _ kvs k=>R ((eF kvs k).getD z) G3:=rfl
theorem a6Z {t:Bool} {kvs:List (DK×D)} (h:G p=some (.iI t kvs)):oG (.ref p) G=True:=by
  unfold L2.oG
  simp only [h]
theorem a70 {t:Bool} {kvs:List (DK×D)} {y:D} {k:DK} {P:Addr→Bool→List (DK×D)→DK→Prop} (h:G p=some (.iI t kvs)) (hk:aeH y=some k) (ht:a2O k=t):nF (.ref p) y G P=P p t kvs k:=by
  unfold L2.nF
  simp only [h,hk]
  exact propext ⟨fun z=>z.2,fun z=>⟨ht,z⟩⟩
end
end L8
namespace L9
open PySem PySem.Spec PyProof.Rows L2 L4 L5 L6 L7 L8
section
variable {ρ:aQ} {G:Gp} {R:dG} {F:dH} {p:Addr}
abbrev ky (a p:Int):List Key:=[.inl a,.inl p]
end
end L9
namespace L10
open PySem PySem.Spec PyProof.Rows L2 L4 L5 L6
section
variable {ρ:aQ} {G:Gp} {F:dH} {p:Addr} {al t:Bool} {od:Obj} {kvs:List (DK×D)} {Q:Src→Gp→Prop} {tg:TG3} {tb:bK}
end
end L10
namespace L11
open PySem PySem.Spec PyProof.Rows L2 L4 L5 L6
section
variable {ρ:aQ} {G:Gp} {F:dH} {p:Addr} {xs:List D} {Q:Src→Gp→Prop} {tg:TG3} {tb:bK} {R:dG}
end
end L11
namespace L12
open PySem PySem.Spec PyProof.Rows L2 L4 L5 L6
section
variable {G:Gp} {R:dG} {p:Addr}
theorem ag0 {j y:Str}:nG (.str j) [.str y] G R=R (.bl (Txt.startswith j y)) G:=rfl
theorem strs_map:∀ (ys:List Str),lV (ys.map D.str)=some ys
  | []=>rfl
  | y :: r=>by
    show (lV (r.map D.str)).map (y :: ·)=_
    rw [strs_map r]
    rfl
theorem count_at {ys:List Str} {k:Str} (h:aZ G p=some (ys.map D.str)):sI (.ref p) [.str k] G R=R (.int ((ys.countP (· == k):Nat):Int)) G:=by
  unfold L2.sI
  simp only [h,strs_map]
theorem akG {ds:List D} {d:D} {j:Nat} (h:G p=some (.lst ds)) (hd:ds[j]?=some d) (z:R d (aL G p (.lst (ds.eraseIdx j)))):wU (.ref p) [.int (j:Int)] G R:=by
  unfold L2.wU L2.a2M
  simp only [h]
  exact ⟨j,d,rfl,hd,z⟩
theorem acA {ys:List Str} {k:Str} (j:Nat) (h1:ys[j]?=some k) (h2:∀ m,m < j→ys[m]?≠some k) (z:R (.int j) G):iH (.tup (ys.map D.str)) [.str k] G R:=by
  unfold L2.iH
  simp only [strs_map]
  exact ⟨j,h1,h2,z⟩
end
end L12
namespace Law
open PySem PySem.Spec PyProof.Rows L2 L4 PySem.W
def top (i:Nat):Stmt:=PySem.Challenge.pw_depot_k42_pieces_in_turn.main.body.getD i (.Pass ⟨0,0,0,0⟩)
abbrev vL:Stmt:=top 5
abbrev ag1:Stmt:=top 6
abbrev a06:Stmt:=top 7
abbrev cL:Stmt:=top 8
abbrev wW:Stmt:=top 9
abbrev rD:Stmt:=top 11
abbrev tU:Stmt:=top 12
abbrev vM:Stmt:=top 13
abbrev rE:Stmt:=top 14
abbrev vN:Stmt:=top 15
abbrev tV:Stmt:=top 16
abbrev a71:Stmt:=top 17
set_option genInjectivity false in
structure bU where
  oM:Addr
  fC:FuncData
  a8R:Addr
  a07:FuncData
  uE:Addr
  kW:FuncData
  wX:Addr
  jE:FuncData
  wY:Addr
  jF:FuncData
  kY:Addr
  cW:FuncData
  mH:Addr
  dM:FuncData
  oN:Addr
  fD:FuncData
  kZ:Addr
  cX:FuncData
  oO:Addr
  fG:FuncData
  mJ:Addr
  dN:FuncData
  xO:Addr
  ag2:FuncData
  fH:Addr
  cY:Addr
  eY:Addr
  nP:Addr
  eZ:Addr
  nQ:Addr
def Bse (base:Heap) (mg:Str→Option Value) (A:bU):Prop:=(base.BuiltinsAt mg A.eY∧CodeHd base A.nP A.eY)∧(base.BuiltinsAt mg A.eZ∧CodeHd base A.nQ A.eZ)
def oR (K:Fg) (A:bU) (ex:aQ→aY):bK :=
    (gA (pK (aA (aJ bN (aB 0) (bA (.int 3))) (aA (aJ bN (aB 0) (bA (.int 4))) (aA (aJ bN (aB 0) (bA (.int 2))) (aA (aJ bN (aJ bN (aB 0) (bA (.int 0))) (bA (.int 0))) (aA (aJ bN (aJ bN (aB 0) (bA (.int 0))) (bA (.int 1))) (aA (aJ bN (aB 0) (bA (.int 1))) aK))))))))
def gP (K:Fg) (A:bU):jT:=spD 1 1 fun EX=>oR K A (fun _=>EX)
def a4T:CB:=(.cons (.ret (.tup (.cons (.ix (.var 0) (.con (.int 3))) (.cons (.ix (.var 0) (.con (.int 4))) (.cons (.ix (.var 0) (.con (.int 2))) (.cons (.ix (.ix (.var 0) (.con (.int 0))) (.con (.int 0))) (.cons (.ix (.ix (.var 0) (.con (.int 0))) (.con (.int 1))) (.cons (.ix (.var 0) (.con (.int 1))) .nil)))))))) .nil)
def a4U (K:Fg) (A:bU):SI:=⟨["piece"],[true],[true],[false],[],[],true,false⟩
def a8S (K:Fg) (A:bU) (ex:aQ→aY):bK :=
    (gA (abO (bM (tM3 "str" nG (aB 0) (aA (bA (.str "-")) aK))) (sG (aB 0) (wI (bA (.int 1))) nA) (aB 0)))
def sS (K:Fg) (A:bU):jT:=spD 1 1 fun EX=>a8S K A (fun _=>EX)
def aqS:CB:=(.cons (.ret (.ifx (.val (.meth .starts (.var 0) (.cons (.con (.str "-")) .nil))) (.sl (.var 0) (.some (.con (.int 1))) .none) (.var 0))) .nil)
def aqT (K:Fg) (A:bU):SI:=⟨["word"],[true],[true],[false],[],[],true,false⟩
def mK (K:Fg) (A:bU) (ex:aQ→aY):bK :=
    (jR (a80 (bM (aJ xZ (aB 3) (bA (.tup [.str "due",.str "came",.str "amount",.str "aisle",.str "place",.str "lot"])))) (bM (aJ adN (tM3 "list" sI (aB 2) (aA (aB 3) aK)) (bA (.int 1))))) (sE ex A.cY (aA (bA (.str "due, came, amount, aisle, place, lot are the words, each once, with one blank between")) aK)) cU)
def vO (K:Fg) (A:bU) (ex:aQ→aY):bK :=
    (gA (aB 1))
def vP (K:Fg) (A:bU) (ex:aQ→aY):bK :=
    aU (mD (a89 (aB 2)) (m9 3) (mK K A ex)) (vO K A ex)
def vQ (K:Fg) (A:bU) (ex:aQ→aY):bK :=
    aU (bB 2 (a87 (wM (aB 1)) wO (bZ (sS K A) NoX (aA (aB 0) aK)))) (vP K A ex)
def vR (K:Fg) (A:bU) (ex:aQ→aY):bK :=
    aU (bB 1 (tM3 "str" yH (aB 0) (aA (bA (.str " ")) aK))) (vQ K A ex)
def uF (K:Fg) (A:bU) (ex:aQ→aY):bK :=
    aU (jR (a5X (bM (qY (cB K) (aA (aB 0) (aA (bA (.ty "str")) aK))))) (sE ex A.cY (aA (bA (.str "a text is wanted")) aK)) cU) (vR K A ex)
def lX (K:Fg) (A:bU):jT:=spD 4 1 fun EX=>uF K A (fun _=>EX)
def a8T:CB:=(.cons (.ifs (.not (.val (.call 1 (.cons (.var 0) (.cons (.glo 0) .nil))))) (.cons (.raise 2 (.con (.str "a text is wanted")) .nil) .nil) .nil) (.cons (.set 1 (.meth .split (.var 0) (.cons (.con (.str " ")) .nil))) (.cons (.setC 2 [false,false,false,false] [false,false,false,true,false] (.any (.var 1)) .none (.call 3 (.cons (.var 0) .nil))) (.cons (.a4O (.any (.var 2)) (.nm 3) (.cons (.ifs (.or (.cons (.cmp .NotIn (.var 3) (.glo 4)) (.cons (.cmp .Gt (.meth .count (.var 2) (.cons (.var 3) .nil)) (.con (.int 1))) .nil))) (.cons (.raise 2 (.con (.str "due, came, amount, aisle, place, lot are the words, each once, with one blank between")) .nil) .nil) .nil) .nil)) (.cons (.ret (.var 1)) .nil)))))
def a8U (K:Fg) (A:bU):SI:=⟨["text", "words", "names", "name"],[true,true,true,true],[true,true,true,true],[false,false,false,false],[("str",.bt "str"),("isinstance",.bf .isi),("NoRule",.cls A.cY),("bare",.fn (sS K A) 1 false),("WORDS",.con (.tup [.str "due",.str "came",.str "amount",.str "aisle",.str "place",.str "lot"]))],[true,true,true,false,true],true,false⟩
def bC:uW:=avG "rule_of" "parts" (inBody cL 1)
def rF (K:Fg) (A:bU) (ex:aQ→aY):bK :=
    (gA (qY vD (aA (a9U 2 (wM (aB 0)) wO (abO (bM (aB 1)) (a66 (aJ bN (aB 4) (aB 0))) (aJ bN (aB 4) (aB 0)))) aK)))
def j6 (K:Fg) (A:bU) (ex:aQ→aY):bK :=
    aU (bB 2 (bZ (gP K A) ex (aA (aB 1) aK))) (rF K A ex)
def dO (K:Fg) (A:bU):jT:=spD 3 2 fun EX=>j6 K A (fun _=>EX)
def vU:CB:=(.cons (.set 2 (.call 0 (.cons (.var 1) .nil))) (.cons (.ret (.call 1 (.cons (.aa7 2 [false,false,true] [false,false] (.any (.fre 0)) .none (.ifx (.val (.var 1)) (.neg (.ix (.var 4) (.var 0))) (.ix (.var 4) (.var 0)))) .nil))) .nil))
def vV (K:Fg) (A:bU):SI:=⟨["parts", "piece", "numbers"],[false,true,true],[false,true,false],[true,false,true],[("numbers_of",.fn (gP K A) 1 false),("tuple",.bt "tuple")],[true,true],true,false⟩
def sU (K:Fg) (A:bU) (ex:aQ→aY):bK :=
    (bB 1 (a87 (wM (bZ (lX K A) ex (aA (aB 0) aK))) wO (pK (aA (aj8  [.str "due",.str "came",.str "amount",.str "aisle",.str "place",.str "lot"] (bZ (sS K A) NoX (aA (aB 0) aK))) (aA (tM3 "str" nG (aB 0) (aA (bA (.str "-")) aK)) aK)))))
def gG (K:Fg) (A:bU):jT:=alQ 3 1 (fun EX=>sU K A (fun _=>EX)) A.eY bC (a6V (inBody cL 1)) 1
def a3C:CB:=(.cons (.setC 1 [false,false,false] [false,true,true] (.any (.call 0 (.cons (.var 0) .nil))) .none (.tup (.cons (.tix 1 (.call 2 (.cons (.var 0) .nil))) (.cons (.meth .starts (.var 0) (.cons (.con (.str "-")) .nil)) .nil)))) .nil)
def a3D (K:Fg) (A:bU):SI:=⟨["text", "parts", "tuple_of"],[true,true,true],[true,false,true],[false,true,false],[("words_of",.fn (lX K A) 1 false),("WORDS",.con (.tup [.str "due",.str "came",.str "amount",.str "aisle",.str "place",.str "lot"])),("bare",.fn (sS K A) 1 false)],[true,false,false],true,false⟩
def bO:tH:=lamOf "in_turn" "rule" wW
def gQ (K:Fg) (A:bU) (ex:aQ→aY):bL :=
    (pK (aA (a3U 0 bC (dO K A) (aA (aB 1) aK)) (aA (aJ bN (aB 1) (bA (.int 0))) (aA (aJ bN (aB 1) (bA (.int 1))) aK))))
def fJ (K:Fg) (A:bU):jT:=spL 2 2 (gQ K A (fun _=>fB fun _ _=>False))
def tW:CE:=(.tup (.cons (.callC 0 0 (.var 1) .nil) (.cons (.ix (.var 1) (.con (.int 0))) (.cons (.ix (.var 1) (.con (.int 1))) .nil))))
def tX (K:Fg) (A:bU):SI:=⟨["rule", "piece"],[false,true],[false,true],[true,false],[("-",.clo bC (dO K A))],[false],true,false⟩
def lA (K:Fg) (A:bU):jT:=afM 2 2 A.eZ bO 0 1 (fJ K A)
def nR (K:Fg) (A:bU) (ex:aQ→aY):bK :=
    (gA (aJ cA (aJ dI (aJ qQ (aB 2) (aB 2)) (aJ qQ (bA (.int 48271)) (aB 1))) (bA (.int 2147483629))))
def nU (K:Fg) (A:bU) (ex:aQ→aY):bK :=
    aU (bB 2 (aJ cA (aJ dI (aJ qQ (aJ bN (aB 0) (aJ cA (aB 1) (qY tL (aA (aB 0) aK)))) (bA (.int 48271))) (aJ qQ (aB 1) (bA (.int 104729)))) (bA (.int 2147483647)))) (nR K A ex)
def nW (K:Fg) (A:bU) (ex:aQ→aY):bK :=
    aU (jR (bM (aJ v7 (qY tL (aA (aB 0) aK)) (bA (.int 0)))) (gA (bA (.int 0))) cU) (nU K A ex)
def lB (K:Fg) (A:bU) (ex:aQ→aY):bK :=
    aU (jR (bM (aJ adM (aB 1) (qY tL (aA (aB 0) aK)))) (gA (aJ bN (aB 0) (aB 1))) cU) (nW K A ex)
def bJ (K:Fg) (A:bU):jT:=spD 3 2 fun EX=>lB K A (fun _=>EX)
def a08:CB:=(.cons (.ifs (.cmp .Lt (.var 1) (.call 0 (.cons (.var 0) .nil))) (.cons (.ret (.ix (.var 0) (.var 1))) .nil) .nil) (.cons (.ifs (.cmp .Eq (.call 0 (.cons (.var 0) .nil)) (.con (.int 0))) (.cons (.ret (.con (.int 0))) .nil) .nil) (.cons (.set 2 (.bin .Mod (.bin .Add (.bin .Mult (.ix (.var 0) (.bin .Mod (.var 1) (.call 0 (.cons (.var 0) .nil)))) (.con (.int 48271))) (.bin .Mult (.var 1) (.con (.int 104729)))) (.con (.int 2147483647)))) (.cons (.ret (.bin .Mod (.bin .Add (.bin .Mult (.var 2) (.var 2)) (.bin .Mult (.con (.int 48271)) (.var 1))) (.con (.int 2147483629)))) .nil))))
def a09 (K:Fg) (A:bU):SI:=⟨["_law_script", "_law_k", "_law_mixed"],[true,true,true],[true,true,true],[false,false,false],[("len",.bf .len)],[true],true,false⟩
def gB (K:Fg) (A:bU) (ex:aQ→aY):bK :=
    (bB 8 (aJ cA (aJ cF (aB 1) (bA (.int 926640))) (bA (.int 1000))))
def fK (K:Fg) (A:bU) (ex:aQ→aY):bK :=
    (qR (tM3 "list" iD (aB 3) (aA (pK (aA (aB 7) (aA (aB 8) (aA (aB 12) (aA (aB 10) (aA (aB 11) aK)))))) aK)))
def cH (K:Fg) (A:bU) (ex:aQ→aY):bK :=
    (jR (bM (aJ wR (pK (aA (aB 7) (aA (aB 8) aK))) (aB 4))) (aU (a4M (aB 4) (pK (aA (aB 7) (aA (aB 8) aK))) (bA (.bl true))) (fK K A ex)) cU)
def iR (K:Fg) (A:bU) (ex:aQ→aY):bK :=
    aU (jR (bM (aJ v7 (aJ cA (aJ cF (aB 9) (bA (.int 540))) (bA (.int 5))) (bA (.int 1)))) (bB 12 (aJ dI (bA (.int 1)) (aJ cA (aJ cF (aB 9) (bA (.int 2700))) (bA (.int 1000000))))) cU) (cH K A ex)
def dD (K:Fg) (A:bU) (ex:aQ→aY):bK :=
    aU (bB 12 (aJ dI (bA (.int 1)) (aJ cA (aJ cF (aB 9) (bA (.int 90))) (bA (.int 6))))) (iR K A ex)
def eG (K:Fg) (A:bU) (ex:aQ→aY):bK :=
    aU (a4G [10,11] (aeO a6P (aB 5) (aA (aB 8) (aA (pK (aA (aB 10) (aA (aB 11) aK))) aK)))) (dD K A ex)
def eN (K:Fg) (A:bU) (ex:aQ→aY):bK :=
    aU (bB 11 (aJ cA (aJ bN (pL (aA (aJ cA (aJ cF (aB 9) (bA (.int 5))) (bA (.int 3))) (aA (aJ cF (aB 9) (bA (.int 900000))) aK))) (qY a9S (aA (aJ v7 (aJ cA (aJ cF (aB 9) (bA (.int 15))) (bA (.int 6))) (bA (.int 1))) aK))) (aJ dI (aB 10) (bA (.int 1))))) (eG K A ex)
def lC (K:Fg) (A:bU) (ex:aQ→aY):bK :=
    aU (jR (bM (aJ v7 (aJ cA (aJ cF (aB 9) (bA (.int 15))) (bA (.int 6))) (bA (.int 1)))) (bB 10 (aJ cA (aJ cF (aB 9) (bA (.int 90))) (bA (.int 10000)))) cU) (eN K A ex)
def lD (K:Fg) (A:bU) (ex:aQ→aY):bK :=
    aU (bB 10 (aJ cA (aB 9) (bA (.int 5)))) (lC K A ex)
def eO (K:Fg) (A:bU) (ex:aQ→aY):bK :=
    aU (bB 9 (bZ (bJ K A) ex (aA (aB 0) (aA (aJ dI (bA (.int 9)) (aJ qQ (bA (.int 2)) (aB 6))) aK)))) (lD K A ex)
def lE (K:Fg) (A:bU) (ex:aQ→aY):bK :=
    aU (jR (bM (aJ v7 (aJ cA (aJ cF (aB 1) (bA (.int 60))) (bA (.int 6))) (bA (.int 1)))) (aU (bB 7 (pK (aA (aJ cA (aJ cF (aB 1) (bA (.int 360))) (bA (.int 26))) (aA (aJ dI (bA (.int 1)) (aJ cA (aJ cF (aB 1) (bA (.int 9360))) (bA (.int 99)))) aK)))) (gB K A ex)) cU) (eO K A ex)
def lF (K:Fg) (A:bU) (ex:aQ→aY):bK :=
    aU (bB 8 (aJ cA (aJ cF (aB 1) (bA (.int 12))) (bA (.int 5)))) (lE K A ex)
def lG (K:Fg) (A:bU) (ex:aQ→aY):bK :=
    aU (bB 7 (pK (aA (aJ cA (aB 1) (bA (.int 3))) (aA (aJ dI (bA (.int 1)) (aJ cA (aJ cF (aB 1) (bA (.int 3))) (bA (.int 4)))) aK)))) (lF K A ex)
def gH (K:Fg) (A:bU) (ex:aQ→aY):bK :=
    aU (bB 1 (bZ (bJ K A) ex (aA (aB 0) (aA (aJ dI (bA (.int 8)) (aJ qQ (bA (.int 2)) (aB 6))) aK)))) (lG K A ex)
def pN (K:Fg) (A:bU) (ex:aQ→aY):bK :=
    (gA (aB 3))
def pO (K:Fg) (A:bU) (ex:aQ→aY):bK :=
    aU (mD (rB (aA (aB 2) aK)) (m9 6) (gH K A ex)) (pN K A ex)
def pP (K:Fg) (A:bU) (ex:aQ→aY):bK :=
    aU (bB 5 a4C) (pO K A ex)
def pQ (K:Fg) (A:bU) (ex:aQ→aY):bK :=
    aU (bB 4 yC) (pP K A ex)
def iK (K:Fg) (A:bU) (ex:aQ→aY):bK :=
    aU (bB 3 (pL aK)) (pQ K A ex)
def pR (K:Fg) (A:bU) (ex:aQ→aY):bK :=
    aU (jR (bM (aJ v7 (aJ cA (aJ cF (aB 1) (bA (.int 9))) (bA (.int 8))) (bA (.int 1)))) (bB 2 (aJ cA (aJ cF (aB 1) (bA (.int 72))) (bA (.int 41)))) cU) (iK K A ex)
def pU (K:Fg) (A:bU) (ex:aQ→aY):bK :=
    aU (bB 2 (aJ cA (aB 1) (bA (.int 9)))) (pR K A ex)
def mL (K:Fg) (A:bU) (ex:aQ→aY):bK :=
    aU (bB 1 (bZ (bJ K A) ex (aA (aB 0) (aA (bA (.int 0)) aK)))) (pU K A ex)
def fM (K:Fg) (A:bU):jT:=spD 13 1 fun EX=>mL K A (fun _=>EX)
def a1J:CB:=(.cons (.set 1 (.call 0 (.cons (.var 0) (.cons (.con (.int 0)) .nil)))) (.cons (.set 2 (.bin .Mod (.var 1) (.con (.int 9)))) (.cons (.ifs (.cmp .Eq (.bin .Mod (.bin .FloorDiv (.var 1) (.con (.int 9))) (.con (.int 8))) (.con (.int 1))) (.cons (.set 2 (.bin .Mod (.bin .FloorDiv (.var 1) (.con (.int 72))) (.con (.int 41)))) .nil) .nil) (.cons (.set 3 (.lst .nil)) (.cons (.set 4 .ajF) (.cons (.set 5 .dct) (.cons (.a4O (.a6Q (.var 2)) (.nm 6) (.cons (.set 1 (.call 0 (.cons (.var 0) (.cons (.bin .Add (.con (.int 8)) (.bin .Mult (.con (.int 2)) (.var 6))) .nil)))) (.cons (.set 7 (.tup (.cons (.bin .Mod (.var 1) (.con (.int 3))) (.cons (.bin .Add (.con (.int 1)) (.bin .Mod (.bin .FloorDiv (.var 1) (.con (.int 3))) (.con (.int 4)))) .nil)))) (.cons (.set 8 (.bin .Mod (.bin .FloorDiv (.var 1) (.con (.int 12))) (.con (.int 5)))) (.cons (.ifs (.cmp .Eq (.bin .Mod (.bin .FloorDiv (.var 1) (.con (.int 60))) (.con (.int 6))) (.con (.int 1))) (.cons (.set 7 (.tup (.cons (.bin .Mod (.bin .FloorDiv (.var 1) (.con (.int 360))) (.con (.int 26))) (.cons (.bin .Add (.con (.int 1)) (.bin .Mod (.bin .FloorDiv (.var 1) (.con (.int 9360))) (.con (.int 99)))) .nil)))) (.cons (.set 8 (.bin .Mod (.bin .FloorDiv (.var 1) (.con (.int 926640))) (.con (.int 1000)))) .nil)) .nil) (.cons (.set 9 (.call 0 (.cons (.var 0) (.cons (.bin .Add (.con (.int 9)) (.bin .Mult (.con (.int 2)) (.var 6))) .nil)))) (.cons (.set 10 (.bin .Mod (.var 9) (.con (.int 5)))) (.cons (.ifs (.cmp .Eq (.bin .Mod (.bin .FloorDiv (.var 9) (.con (.int 15))) (.con (.int 6))) (.con (.int 1))) (.cons (.set 10 (.bin .Mod (.bin .FloorDiv (.var 9) (.con (.int 90))) (.con (.int 10000)))) .nil) .nil) (.cons (.set 11 (.bin .Mod (.ix (.lst (.cons (.bin .Mod (.bin .FloorDiv (.var 9) (.con (.int 5))) (.con (.int 3))) (.cons (.bin .FloorDiv (.var 9) (.con (.int 900000))) .nil))) (.call 2 (.cons (.cmp .Eq (.bin .Mod (.bin .FloorDiv (.var 9) (.con (.int 15))) (.con (.int 6))) (.con (.int 1))) .nil))) (.bin .Add (.var 10) (.con (.int 1))))) (.cons (.ajK [10,11] (.dm .sdk (.var 5) (.var 8) (.cons (.tup (.cons (.var 10) (.cons (.var 11) .nil))) .nil))) (.cons (.set 12 (.bin .Add (.con (.int 1)) (.bin .Mod (.bin .FloorDiv (.var 9) (.con (.int 90))) (.con (.int 6))))) (.cons (.ifs (.cmp .Eq (.bin .Mod (.bin .FloorDiv (.var 9) (.con (.int 540))) (.con (.int 5))) (.con (.int 1))) (.cons (.set 12 (.bin .Add (.con (.int 1)) (.bin .Mod (.bin .FloorDiv (.var 9) (.con (.int 2700))) (.con (.int 1000000))))) .nil) .nil) (.cons (.ifs (.din true (.tup (.cons (.var 7) (.cons (.var 8) .nil))) (.var 4)) (.cons (.ajM (.var 4) (.tup (.cons (.var 7) (.cons (.var 8) .nil))) (.con (.bl true))) (.cons (.expr (.meth .append (.var 3) (.cons (.tup (.cons (.var 7) (.cons (.var 8) (.cons (.var 12) (.cons (.var 10) (.cons (.var 11) .nil)))))) .nil))) .nil)) .nil) .nil))))))))))))) (.cons (.ret (.var 3)) .nil))))))))
def a1K (K:Fg) (A:bU):SI:=⟨["_law_script", "_law_cell", "_law_many", "_law_found", "_law_known", "_law_days", "_law_k", "_law_spot", "_law_lot", "_law_other", "_law_due", "_law_came", "_law_grains"],[true,true,true,true,true,true,true,true,true,true,true,true,true],[true,true,true,true,true,true,true,true,true,true,true,true,true],[false,false,false,false,false,false,false,false,false,false,false,false,false],[("_law_cell_at",.fn (bJ K A) 2 false),("range",.bt "range"),("int",.bt "int")],[true,true,true],true,false⟩
def lY (K:Fg) (A:bU) (ex:aQ→aY):bK :=
    (qR (tM3 "list" iD (aB 3) (aA (aJ dI (aJ bN (pL (aA (bA (.str "")) (aA (bA (.str "-")) aK))) (aJ cA (aB 2) (bA (.int 2)))) (tM3 "list" wU (aB 1) (aA (aJ cA (aJ cF (aB 2) (bA (.int 2))) (qY tL (aA (aB 1) aK))) aK))) aK)))
def iM (K:Fg) (A:bU) (ex:aQ→aY):bK :=
    aU (bB 2 (bZ (bJ K A) ex (aA (aB 0) (aA (aJ dI (bA (.int 2)) (aB 4)) aK)))) (lY K A ex)
def rG (K:Fg) (A:bU) (ex:aQ→aY):bK :=
    (gA (aB 3))
def rH (K:Fg) (A:bU) (ex:aQ→aY):bK :=
    aU (mD (rB (aA (aJ dI (bA (.int 1)) (aJ cA (aB 2) (bA (.int 6)))) aK)) (m9 4) (iM K A ex)) (rG K A ex)
def rJ (K:Fg) (A:bU) (ex:aQ→aY):bK :=
    aU (bB 3 (pL aK)) (rH K A ex)
def rK (K:Fg) (A:bU) (ex:aQ→aY):bK :=
    aU (bB 2 (bZ (bJ K A) ex (aA (aB 0) (aA (bA (.int 1)) aK)))) (rJ K A ex)
def oU (K:Fg) (A:bU) (ex:aQ→aY):bK :=
    aU (bB 1 (pL (aA (bA (.str "due")) (aA (bA (.str "came")) (aA (bA (.str "amount")) (aA (bA (.str "aisle")) (aA (bA (.str "place")) (aA (bA (.str "lot")) aK)))))))) (rK K A ex)
def gR (K:Fg) (A:bU):jT:=spD 5 1 fun EX=>oU K A (fun _=>EX)
def a4V:CB:=(.cons (.set 1 (.lst (.cons (.con (.str "due")) (.cons (.con (.str "came")) (.cons (.con (.str "amount")) (.cons (.con (.str "aisle")) (.cons (.con (.str "place")) (.cons (.con (.str "lot")) .nil)))))))) (.cons (.set 2 (.call 0 (.cons (.var 0) (.cons (.con (.int 1)) .nil)))) (.cons (.set 3 (.lst .nil)) (.cons (.a4O (.a6Q (.bin .Add (.con (.int 1)) (.bin .Mod (.var 2) (.con (.int 6))))) (.nm 4) (.cons (.set 2 (.call 0 (.cons (.var 0) (.cons (.bin .Add (.con (.int 2)) (.var 4)) .nil)))) (.cons (.expr (.meth .append (.var 3) (.cons (.bin .Add (.ix (.lst (.cons (.con (.str "")) (.cons (.con (.str "-")) .nil))) (.bin .Mod (.var 2) (.con (.int 2)))) (.meth .abZ (.var 1) (.cons (.bin .Mod (.bin .FloorDiv (.var 2) (.con (.int 2))) (.call 2 (.cons (.var 1) .nil))) .nil))) .nil))) .nil))) (.cons (.ret (.var 3)) .nil)))))
def a4W (K:Fg) (A:bU):SI:=⟨["_law_script", "_law_left", "_law_cell", "_law_words_here", "_law_k"],[true,true,true,true,true],[true,true,true,true,true],[false,false,false,false,false],[("_law_cell_at",.fn (bJ K A) 2 false),("range",.bt "range"),("len",.bf .len)],[true,true,true],true,false⟩
def dF (K:Fg) (A:bU) (ex:aQ→aY):bK :=
    (qR (tM3 "list" iD (aB 2) (aA (aB 6) aK)))
def iT (K:Fg) (A:bU) (ex:aQ→aY):bK :=
    aU (jR (bM (aJ v7 (sG (aB 3) nA (wI (bA (.int 1)))) (bA (.str "-")))) (bB 6 (aJ a2C (bA (.int 0)) (aB 6))) cU) (dF K A ex)
def iU (K:Fg) (A:bU) (ex:aQ→aY):bK :=
    aU (bB 6 (yF (aB 5) (aB 4) (aJ bN (aB 0) (bA (.int 1))))) (iT K A ex)
def iV (K:Fg) (A:bU) (ex:aQ→aY):bK :=
    aU (bB 5 (a4L ["due", "came", "amount", "aisle", "place"] (aA (aJ bN (aB 0) (bA (.int 3))) (aA (aJ bN (aB 0) (bA (.int 4))) (aA (aJ bN (aB 0) (bA (.int 2))) (aA (aJ bN (aJ bN (aB 0) (bA (.int 0))) (bA (.int 0))) (aA (aJ bN (aJ bN (aB 0) (bA (.int 0))) (bA (.int 1))) aK))))))) (iU K A ex)
def lZ (K:Fg) (A:bU) (ex:aQ→aY):bK :=
    aU (bB 4 (tM3 "str" nH (aB 3) (aA (bA (.str "-")) (aA (bA (.str "")) aK)))) (iV K A ex)
def gJ (K:Fg) (A:bU) (ex:aQ→aY):bK :=
    (gA (aB 2))
def nY (K:Fg) (A:bU) (ex:aQ→aY):bK :=
    aU (mD (a89 (aB 1)) (m9 3) (lZ K A ex)) (gJ K A ex)
def lH (K:Fg) (A:bU) (ex:aQ→aY):bK :=
    aU (bB 2 (pL aK)) (nY K A ex)
def cR (K:Fg) (A:bU):jT:=spD 7 2 fun EX=>lH K A (fun _=>EX)
def a0A:CB:=(.cons (.set 2 (.lst .nil)) (.cons (.a4O (.any (.var 1)) (.nm 3) (.cons (.set 4 (.repl (.var 3) "-" "")) (.cons (.set 5 (.aa6 ["due", "came", "amount", "aisle", "place"] (.cons (.ix (.var 0) (.con (.int 3))) (.cons (.ix (.var 0) (.con (.int 4))) (.cons (.ix (.var 0) (.con (.int 2))) (.cons (.ix (.ix (.var 0) (.con (.int 0))) (.con (.int 0))) (.cons (.ix (.ix (.var 0) (.con (.int 0))) (.con (.int 1))) .nil))))))) (.cons (.set 6 (.dgt (.var 5) (.var 4) (.ix (.var 0) (.con (.int 1))))) (.cons (.ifs (.cmp .Eq (.sl (.var 3) .none (.some (.con (.int 1)))) (.con (.str "-"))) (.cons (.set 6 (.bin .Sub (.con (.int 0)) (.var 6))) .nil) .nil) (.cons (.expr (.meth .append (.var 2) (.cons (.var 6) .nil))) .nil)))))) (.cons (.ret (.var 2)) .nil)))
def a0B (K:Fg) (A:bU):SI:=⟨["_law_piece", "_law_words_here", "_law_found", "_law_word", "_law_name", "_law_told", "_law_number"],[true,true,true,true,true,true,true],[true,true,true,true,true,true,true],[false,false,false,false,false,false,false],[],[],true,true⟩
def pW (K:Fg) (A:bU) (ex:aQ→aY):bK :=
    (jR (bM (aJ a82 (aJ bN (aB 3) (aB 5)) (aJ bN (aB 4) (aB 5)))) (gA (aJ adM (aJ bN (aB 3) (aB 5)) (aJ bN (aB 4) (aB 5)))) cU)
def rM (K:Fg) (A:bU) (ex:aQ→aY):bK :=
    (gA (bA (.bl false)))
def rN (K:Fg) (A:bU) (ex:aQ→aY):bK :=
    aU (mD (rB (aA (qY tL (aA (aB 3) aK)) aK)) (m9 5) (pW K A ex)) (rM K A ex)
def rO (K:Fg) (A:bU) (ex:aQ→aY):bK :=
    aU (bB 4 (aJ dI (bZ (cR K A) ex (aA (aB 1) (aA (aB 2) aK))) (pL (aA (aJ bN (aJ bN (aB 1) (bA (.int 0))) (bA (.int 0))) (aA (aJ bN (aJ bN (aB 1) (bA (.int 0))) (bA (.int 1))) (aA (aJ bN (aB 1) (bA (.int 1))) aK)))))) (rN K A ex)
def oV (K:Fg) (A:bU) (ex:aQ→aY):bK :=
    aU (bB 3 (aJ dI (bZ (cR K A) ex (aA (aB 0) (aA (aB 2) aK))) (pL (aA (aJ bN (aJ bN (aB 0) (bA (.int 0))) (bA (.int 0))) (aA (aJ bN (aJ bN (aB 0) (bA (.int 0))) (bA (.int 1))) (aA (aJ bN (aB 0) (bA (.int 1))) aK)))))) (rO K A ex)
def gU (K:Fg) (A:bU):jT:=spD 6 3 fun EX=>oV K A (fun _=>EX)
def a4X:CB:=(.cons (.set 3 (.bin .Add (.call 0 (.cons (.var 0) (.cons (.var 2) .nil))) (.lst (.cons (.ix (.ix (.var 0) (.con (.int 0))) (.con (.int 0))) (.cons (.ix (.ix (.var 0) (.con (.int 0))) (.con (.int 1))) (.cons (.ix (.var 0) (.con (.int 1))) .nil)))))) (.cons (.set 4 (.bin .Add (.call 0 (.cons (.var 1) (.cons (.var 2) .nil))) (.lst (.cons (.ix (.ix (.var 1) (.con (.int 0))) (.con (.int 0))) (.cons (.ix (.ix (.var 1) (.con (.int 0))) (.con (.int 1))) (.cons (.ix (.var 1) (.con (.int 1))) .nil)))))) (.cons (.a4O (.a6Q (.call 2 (.cons (.var 3) .nil))) (.nm 5) (.cons (.ifs (.cmp .NotEq (.ix (.var 3) (.var 5)) (.ix (.var 4) (.var 5))) (.cons (.ret (.cmp .Lt (.ix (.var 3) (.var 5)) (.ix (.var 4) (.var 5)))) .nil) .nil) .nil)) (.cons (.ret (.con (.bl false))) .nil))))
def a4Y (K:Fg) (A:bU):SI:=⟨["_law_one", "_law_other", "_law_words_here", "_law_first", "_law_second", "_law_k"],[true,true,true,true,true,true],[true,true,true,true,true,true],[false,false,false,false,false,false],[("_law_numbers",.fn (cR K A) 2 false),("range",.bt "range"),("len",.bf .len)],[true,true,true],true,false⟩
def iW (K:Fg) (A:bU) (ex:aQ→aY):bK :=
    (bB 4 (aJ a2C (aB 4) (bA (.int 1))))
def eU (K:Fg) (A:bU) (ex:aQ→aY):bK :=
    (qR (tM3 "list" nJ (aB 2) (aA (aB 4) (aA (aB 3) aK))))
def lJ (K:Fg) (A:bU) (ex:aQ→aY):bK :=
    aU (yD (a5W (bM (aJ adN (aB 4) (bA (.int 0)))) (bM (bZ (gU K A) ex (aA (aB 3) (aA (aJ bN (aB 2) (aJ a2C (aB 4) (bA (.int 1)))) (aA (aB 1) aK)))))) (iW K A ex)) (eU K A ex)
def gK (K:Fg) (A:bU) (ex:aQ→aY):bK :=
    aU (bB 4 (qY tL (aA (aB 2) aK))) (lJ K A ex)
def pX (K:Fg) (A:bU) (ex:aQ→aY):bK :=
    (gA (aB 2))
def pY (K:Fg) (A:bU) (ex:aQ→aY):bK :=
    aU (mD (a89 (aB 0)) (m9 3) (gK K A ex)) (pX K A ex)
def mQ (K:Fg) (A:bU) (ex:aQ→aY):bK :=
    aU (bB 2 (pL aK)) (pY K A ex)
def fO (K:Fg) (A:bU):jT:=spD 5 2 fun EX=>mQ K A (fun _=>EX)
def a1L:CB:=(.cons (.set 2 (.lst .nil)) (.cons (.a4O (.any (.var 0)) (.nm 3) (.cons (.set 4 (.call 0 (.cons (.var 2) .nil))) (.cons (.ajL (.and (.cons (.cmp .Gt (.var 4) (.con (.int 0))) (.cons (.val (.call 1 (.cons (.var 3) (.cons (.ix (.var 2) (.bin .Sub (.var 4) (.con (.int 1)))) (.cons (.var 1) .nil))))) .nil))) (.cons (.set 4 (.bin .Sub (.var 4) (.con (.int 1)))) .nil)) (.cons (.expr (.meth .insert (.var 2) (.cons (.var 4) (.cons (.var 3) .nil)))) .nil)))) (.cons (.ret (.var 2)) .nil)))
def a1M (K:Fg) (A:bU):SI:=⟨["_law_pieces_here", "_law_words_here", "_law_found", "_law_piece", "_law_at"],[true,true,true,true,true],[true,true,true,true,true],[false,false,false,false,false],[("len",.bf .len),("_law_ahead",.fn (gU K A) 3 false)],[true,true],true,false⟩
def aaL (K:Fg) (A:bU) (ex:aQ→aY):bK :=
    (gA (zH (aJ v7 (aB 3) (aB 1)) (aJ v7 (bZ (lA K A) ex (aA (aB 3) (aA (bZ (gG K A) ex (aA (tM3 "str" u5 (bA (.str " ")) (aA (aB 2) aK)) aK)) aK))) (sG (aB 4) nA (wI (a66 (bA (.int 1))))))))
def aaM (K:Fg) (A:bU) (ex:aQ→aY):bK :=
    aU (qR (tM3 "list" iD (aB 4) (aA (bA .non) aK))) (aaL K A ex)
def aaN (K:Fg) (A:bU) (ex:aQ→aY):bK :=
    aU (jR (a80 (bM (aJ a82 (aB 3) (aB 1))) (a80 (a5X (bM (qY (cB K) (aA (aB 4) (aA (bA (.ty "list")) aK))))) (bM (aJ a82 (aB 4) (bZ (fO K A) ex (aA (aB 1) (aA (aB 2) aK))))))) (gA (bA (.bl false))) cU) (aaM K A ex)
def aaO (K:Fg) (A:bU) (ex:aQ→aY):bK :=
    aU (bB 4 (bZ (lA K A) ex (aA (aB 3) (aA (bZ (gG K A) ex (aA (tM3 "str" u5 (bA (.str " ")) (aA (aB 2) aK)) aK)) aK)))) (aaN K A ex)
def aaP (K:Fg) (A:bU) (ex:aQ→aY):bK :=
    aU (bB 3 (qY zL (aA (aB 1) aK))) (aaO K A ex)
def aaQ (K:Fg) (A:bU) (ex:aQ→aY):bK :=
    aU (bB 2 (bZ (gR K A) ex (aA (aB 0) aK))) (aaP K A ex)
def ag3 (K:Fg) (A:bU) (ex:aQ→aY):bK :=
    aU (bB 1 (bZ (fM K A) ex (aA (aB 0) aK))) (aaQ K A ex)
def a8V (K:Fg) (A:bU):jT:=spD 5 1 fun EX=>ag3 K A (fun _=>EX)
def a72:CB:=(.cons (.set 1 (.call 0 (.cons (.var 0) .nil))) (.cons (.set 2 (.call 1 (.cons (.var 0) .nil))) (.cons (.set 3 (.call 2 (.cons (.var 1) .nil))) (.cons (.set 4 (.call 4 (.cons (.var 3) (.cons (.call 3 (.cons (.meth .join (.con (.str " ")) (.cons (.var 2) .nil)) .nil)) .nil)))) (.cons (.ifs (.or (.cons (.cmp .NotEq (.var 3) (.var 1)) (.cons (.not (.val (.call 5 (.cons (.var 4) (.cons (.glo 2) .nil))))) (.cons (.cmp .NotEq (.var 4) (.call 6 (.cons (.var 1) (.cons (.var 2) .nil)))) .nil)))) (.cons (.ret (.con (.bl false))) .nil) .nil) (.cons (.expr (.meth .append (.var 4) (.cons (.con .non) .nil))) (.cons (.ret (.ajE (.cons (.cmp .Eq (.var 3) (.var 1)) (.cons (.cmp .Eq (.call 4 (.cons (.var 3) (.cons (.call 3 (.cons (.meth .join (.con (.str " ")) (.cons (.var 2) .nil)) .nil)) .nil))) (.sl (.var 4) .none (.some (.neg (.con (.int 1)))))) .nil)))) .nil)))))))
def avZ (K:Fg) (A:bU):SI:=⟨["_law_script", "_law_pieces_here", "_law_words_here", "_law_handed", "_law_found"],[true,true,true,true,true],[true,true,true,true,true],[false,false,false,false,false],[("_law_pieces",.fn (fM K A) 1 false),("_law_words",.fn (gR K A) 1 false),("list",.bt "list"),("rule_of",.fn (gG K A) 1 false),("in_turn",.fn (lA K A) 2 false),("isinstance",.bf .isi),("_law_turned",.fn (fO K A) 2 false)],[true,true,true,true,true,true,true],true,false⟩
structure Txt (K:Fg) (mg:Str→Option Value) (A:bU):Prop where
  nP:A.jE.code = .ref A.nP
  nQ:A.jF.code = .ref A.nQ
  fP:uU K "numbers_of" "numbers_of" vL A.oM A.fC
  j7:Binds K A.fC ["piece"] []
  j8:mg "numbers_of" = some (.ref A.oM)
  wZ:uU K "bare" "bare" ag1 A.a8R A.a07
  a0C:Binds K A.a07 ["word"] []
  a0D:mg "bare" = some (.ref A.a8R)
  lK:uU K "words_of" "words_of" a06 A.uE A.kW
  oW:Binds K A.kW ["text"] []
  oX:mg "words_of" = some (.ref A.uE)
  jG:uU K "rule_of" "rule_of" cL A.wX A.jE
  sV:Binds K A.jE ["text"] []
  sW:mg "rule_of" = some (.ref A.wX)
  jH:uU K "in_turn" "in_turn" wW A.wY A.jF
  sX:Binds K A.jF ["pieces", "rule"] []
  sY:mg "in_turn" = some (.ref A.wY)
  cM:uU K "_law_cell_at" "_law_cell_at" rD A.kY A.cW
  cZ:Binds K A.cW ["_law_script", "_law_k"] []
  d7:mg "_law_cell_at" = some (.ref A.kY)
  dR:uU K "_law_pieces" "_law_pieces" tU A.mH A.dM
  gW:Binds K A.dM ["_law_script"] []
  gY:mg "_law_pieces" = some (.ref A.mH)
  fQ:uU K "_law_words" "_law_words" vM A.oN A.fD
  j9:Binds K A.fD ["_law_script"] []
  jA:mg "_law_words" = some (.ref A.oN)
  d8:uU K "_law_numbers" "_law_numbers" rE A.kZ A.cX
  fU:Binds K A.cX ["_law_piece", "_law_words_here"] []
  fV:mg "_law_numbers" = some (.ref A.kZ)
  fW:uU K "_law_ahead" "_law_ahead" vN A.oO A.fG
  jB:Binds K A.fG ["_law_one", "_law_other", "_law_words_here"] []
  jC:mg "_law_ahead" = some (.ref A.oO)
  dU:uU K "_law_turned" "_law_turned" tV A.mJ A.dN
  gZ:Binds K A.dN ["_law_pieces_here", "_law_words_here"] []
  iB:mg "_law_turned" = some (.ref A.mJ)
  alW:uU K "law" "law" a71 A.xO A.ag2
  aw0:Binds K A.ag2 ["_law_script"] []
  aw1:mg "law" = some (.ref A.xO)
  a4Z:mg "DepotError" = some (.ref A.fH)
  fX:PySem.W.excIn K A.fH BMv "ValueError.__new__" = true
  dW:(PySem.W.clsIn K A.fH).isSome=true
  dX:PySem.W.typeIn K (.ref A.fH)=some (.type "type")
  dY:PySem.W.subIn K (.ref A.fH) (.type "BaseException")=some true
  a73:mg "NoRule" = some (.ref A.cY)
  nZ:PySem.W.excIn K A.cY BMv "ValueError.__new__" = true
  jJ:(PySem.W.clsIn K A.cY).isSome=true
  jK:PySem.W.typeIn K (.ref A.cY)=some (.type "type")
  jL:PySem.W.subIn K (.ref A.cY) (.type "BaseException")=some true
  oY:∃ a,mg "WORDS" = some (.ref a)∧∀ H,RD K H (.tup [.str "due",.str "came",.str "amount",.str "aisle",.str "place",.str "lot"]) (.ref a)
  alX:mg "int" = none
  oZ:mg "isinstance" = none
  a74:mg "len" = none
  ag4:mg "list" = none
  yL:mg "range" = none
  a75:mg "sorted" = none
  alY:mg "str" = none
  aaR:mg "tuple" = none
end Law
namespace Law
open PySem PySem.Spec PyProof.Rows L2 L4 L5 L6
local macro_rules | `(tactic| walk_at "wp")=>`(tactic| first | (simp (maxSteps:=2000000) (implicitDefEqProofs:=false) (disch:=first | rfl | decide | assumption | omega) only [L5.alS,L5.aq9,L5.aqA,L5.avI,L5.avJ,L5.avK,L5.x_raise,L5.x_c,L5.aqB,L5.aqC,L5.azG,L5.aqD,L5.avL,L5.azH,L5.avM,L5.aqE,L5.avN,L5.avO,L5.avP,L5.aqF,L5.avQ,L5.avR,L5.avS,L5.x_call,L5.azI,L5.x_m,L5.ajZ,L5.afR,L5.aqG,L5.ak0,L5.aq2,L5.ajY,L5.afS,L5.avT,L5.aqJ,L5.aqK,L5.ak8,L5.aqL,L5.x_lt,L5.azJ,L5.ak1,L5.ak2,L5.ak3,L5.ak4,L5.kJ,L5.ak5,L5.ak6,L5.ak7,L5.aq3,L5.aq4,L5.aq5,L5.aq6,L5.aq7,L5.aq8,L5.a6X,L5.a8M,L5.a8N,L5.afV,L5.ac6,L5.a8O,L5.avV,L5.avW,L5.a8P,L5.ac7,L5.ac8,L6.ak9,L6.avX,L6.aqN,L6.akA,L6.aqO,L6.afY,L6.akC,L6.a8Q,L6.akD,L6.aqQ,L8.azK,L8.akF,L12.ag0,L7.aqR,reduceIte,reduceCtorEq];try dsimp only [L5.afN,L5.afO,L5.afP,L5.afQ,L6.aaJ]) | dsimp only [L5.afN,L5.afO,L5.afP,L5.afQ,L6.aaJ])
local macro_rules | `(tactic| exists $ls,*)=>`(tactic| (simp (implicitDefEqProofs:=false) only [$[$ls:term],*];repeat (first | (walk_at "wp") | (simp (implicitDefEqProofs:=false) only [$[$ls:term],*]))))
local macro_rules | `(tactic| walk_at "wr")=>`(tactic| repeat (walk_at "wp"))
section
variable {K:Fg} {A:bU} {G:Gp} {R:dG} {EX:aY} {mg:Str→Option Value}
open L7 L8 L12
abbrev six:List Str:=["due", "came", "amount", "aisle", "place", "lot"]
def aX (w:Str):Str:=if Txt.startswith w "-" = true then Txt.slice w (some 1) none else w
theorem a0E (w:Str):decide (Txt.slice w none (some 1) = "-")=Txt.startswith w "-" := by
  have e1:(Str.ofString "-").length=1:=by decide
  have ed:(Str.ofString "-").cps.toList=[45]:=by decide
  unfold Txt.startswith
  by_cases c:1≤w.length
  · have s:=afU w (b:=1) c
    rw [show ((1:Nat):Int)=1 from rfl] at s
    rw [s]
    have g:decide (0+(Str.ofString "-").length≤w.length)=true:=decide_eq_true (by rw [e1];omega)
    rw [g,Bool.true_and]
    unfold Builtin.Str.subAt
    rw [e1]
    have e2:(w.cps.extract 0 (0+1)).toList=w.cps.toList.take 1:=by simp
    by_cases h:w.cps.toList.take 1=[45]
    · have a:(⟨(w.cps.toList.take 1).toArray⟩:Str)=Str.ofString "-" := by rw [h];decide
      rw [decide_eq_true a]
      symm
      rw [beq_iff_eq,← Array.toList_inj,e2,h,ed]
    · have a:¬ (⟨(w.cps.toList.take 1).toArray⟩:Str)=Str.ofString "-" := fun z=>h (by
        have z:=congrArg (fun s:Str=>s.cps.toList) z
        rw [ed] at z
        simpa using z)
      rw [decide_eq_false a]
      symm
      rw [beq_eq_false_iff_ne]
      intro z
      rw [← Array.toList_inj,e2,ed] at z
      exact h z
  · have z:w.length=0:=by omega
    have g:decide (0+(Str.ofString "-").length≤w.length)=false:=decide_eq_false (by rw [e1];omega)
    rw [g,Bool.false_and]
    refine decide_eq_false fun q=>?_
    have:=Txt.slice_le w none (some 1)
    rw [q] at this
    have:(Str.ofString "-").length≤w.length:=this
    rw [e1] at this
    omega
def okN (ns:List Str):Prop:=∀ n∈ns,n∈six∧ns.countP (· == n)≤1
theorem acB {w:Str} (h:Txt.startswith w "-" = true):∃ r,w=⟨(45 :: r).toArray⟩∧aX w=⟨r.toArray⟩:=by
  have e1:(Str.ofString "-").length=1:=by decide
  have ed:(Str.ofString "-").cps.toList=[45]:=by decide
  have h0:=h
  unfold Txt.startswith at h
  rw [Bool.and_eq_true,decide_eq_true_eq,e1] at h
  obtain ⟨c,h⟩:=h
  unfold Builtin.Str.subAt at h
  rw [beq_iff_eq,← Array.toList_inj,ed,e1] at h
  have e2:(w.cps.extract 0 (0+1)).toList=w.cps.toList.take 1:=by simp
  rw [e2] at h
  obtain ⟨r,er⟩:∃ r,w.cps.toList=45 :: r:=by
    cases q:w.cps.toList with
    | nil=>rw [q] at h;cases h
    | cons a r=>rw [q] at h;simp at h;exact ⟨r,by subst h;rfl⟩
  refine ⟨r,by rw [← er],?_⟩
  unfold aX
  rw [if_pos h0]
  have s:=a8L w (a:=1) (by omega)
  rw [show ((1:Nat):Int)=1 from rfl,er] at s
  exact s
abbrev a5A:List Str:=["due", "came", "amount", "aisle", "place", "lot", "-due", "-came", "-amount", "-aisle", "-place", "-lot"]
theorem xA {w:Str} (h:aX w∈six):w∈a5A:=by
  by_cases c:Txt.startswith w "-" = true
  · obtain ⟨r,rfl,e⟩:=acB c
    rw [e] at h
    have h:(⟨r.toArray⟩:Str) = "due" ∨ (⟨r.toArray⟩:Str) = "came" ∨ (⟨r.toArray⟩:Str) = "amount" ∨ (⟨r.toArray⟩:Str) = "aisle" ∨ (⟨r.toArray⟩:Str) = "place" ∨ (⟨r.toArray⟩:Str) = "lot" := by simpa [six] using h
    have key:∀ {z:Str},(⟨r.toArray⟩:Str)=z→r=z.cps.toList:=fun e=>by
      have:=congrArg (fun s:Str=>s.cps.toList) e
      simpa using this
    rcases h with h | h | h | h | h | h <;> (rw [key h];decide +kernel)
  · have e:aX w=w:=by unfold aX;rw [if_neg c]
    rw [e] at h
    have h:w = "due" ∨ w = "came" ∨ w = "amount" ∨ w = "aisle" ∨ w = "place" ∨ w = "lot" := by simpa [six] using h
    rcases h with h | h | h | h | h | h <;> (rw [h];decide +kernel)
theorem akH {w:Str} (h:aX w∈six):Txt.replace w "-" "" = aX w:=by
  have key:∀ w∈a5A,Txt.replace w "-" "" = aX w:=by decide +kernel
  exact key w (xA h)
theorem a0F {w:Str} (h:aX w∈six):w.length≤7:=by
  have key:∀ w∈a5A,w.length≤7:=by decide +kernel
  exact key w (xA h)
def idF (n:Str):Nat:=six.findIdx (· == n)
theorem alZ {n:Str} (h:n∈six):idF n < 6∧six[idF n]?=some n∧∀ m,m < idF n→six[m]?≠some n:=by
  have key:∀ n∈six,idF n < 6∧six[idF n]?=some n∧∀ m,m < idF n→six[m]?≠some n:=by decide +kernel
  exact key n h
theorem aaS (n:Str):∀ ys:List Str,(ys.map D.str).any (fun y=>eqP y (.str n))=ys.contains n
  | []=>rfl
  | y :: r=>by
    rw [List.map_cons,List.any_cons,aaS n r,List.contains_cons]
    congr 1
    show (y == n)=(n == y)
    exact Bool.eq_iff_iff.mpr ⟨fun z=>by rw [beq_iff_eq] at z ⊢;exact z.symm,fun z=>by rw [beq_iff_eq] at z ⊢;exact z.symm⟩
theorem ag5:∀ ys:List Str,(ys.map D.str).all scD=true
  | []=>rfl
  | y :: r=>by rw [List.map_cons,List.all_cons,ag5 r];rfl
theorem akI {n:Str} {ys:List Str} (h:R (.bl (!ys.contains n)) G):xZ (.str n) (.tup (ys.map D.str)) G R :=
  ⟨rfl,ag5 ys,by rw [aaS];exact h⟩
def strOf:D→Str
  | .str w=>w
  | _ => ""
theorem aw2 {ds:List D} {te:bL} {ρ:aQ}:aj8 ds te ρ G R=te ρ G fun y G1=>iH (.tup ds) [y] G1 R:=rfl
theorem tK:20000 < sizeLine:=by decide
theorem ag6 {w:Str} (hw:w.length≤sizeLine) (h:R (.str (aX w)) G):sS K A [.str w] G R EX:=by
  refine ⟨rfl,?_⟩
  replace h:=dJ.here h
  show a8S K A _ _ [some (.str w)] G
  exists a8S
  unfold aX at h
  by_cases c:Txt.startswith w "-" = true
  · rw [if_pos c]
    rw [if_pos c] at h
    exact ⟨hw,h⟩
  · rw [if_neg c]
    rw [if_neg c] at h
    exact h
theorem ag7 {x:Str} (hx:x.length≤10000) (h:∀ q,G q=none→R (.ref q) (aL G q (.lst ((Txt.split x " ").map D.str)))):yH (.str x) [.str " "] G R:=by
  have b:=tK
  have l:=PyProof.Rows.split_le x " "
  exact ⟨rfl,by omega,by omega,h⟩
theorem a76 {x w:Str} (hx:x.length≤10000) (h:w∈Txt.split x " "):w.length≤sizeLine:=by
  have b:=tK
  have:=PyProof.Rows.part_short h
  omega
theorem a8X {F:dH} {ex:aQ→aY} {q2:Addr} {ns:List Str} {r0 r1:Option D} (h2:G q2=some (.lst (ns.map D.str)))
    (hok:okN ns→∀ r G',Le G G'→F.nx [r0,r1,some (.ref q2),r] G') (hbad:¬ okN ns→∀ ρ G',Le G G'→ex ρ A.cY G'):mD (a89 (aB 2)) (m9 3) (mK K A ex) F [r0,r1,some (.ref q2),none] G:=by
  have b:=tK
  rw [afY]
  walk_at "wr"
  rw [wV (aM h2)]
  refine a05 (fun k ρ G'=>∃ r,ρ=[r0,r1,some (.ref q2),r]∧(∀ n∈ns.take k,n∈six∧ns.countP (· == n)≤1)∧Le G G') ⟨none,rfl,fun n hn=>by simp at hn,.refl _⟩ (fun k ρ G' ⟨_,_,_,l⟩=>aM (l _ _ h2)) (fun k d ρ G' hk ⟨_,e,hp,l⟩=>?_) fun ρ G' ⟨r,e,hp,l⟩=>?_
  · subst e
    rw [List.getElem?_map] at hk
    obtain ⟨n,hn,rfl⟩:=Option.map_eq_some_iff.mp hk
    exists mK
    have hm:n∈ns:=List.mem_of_getElem? hn
    refine akI (ys:=six) ?_
    walk_at "wr"
    have l2:=aM (l _ _ h2)
    by_cases c:n∈six
    · rw [if_neg (by rw [List.contains_iff_mem.mpr c];decide)]
      rw [oJ,l2]
      refine ⟨rfl,?_⟩
      rw [count_at l2]
      walk_at "wr"
      by_cases c2:ns.countP (· == n)≤1
      · rw [decide_eq_false (by omega)]
        walk_at "wr"
        refine ⟨_,rfl,fun m hm=>?_,l⟩
        rw [List.take_add_one,List.mem_append] at hm
        rcases hm with hm | hm
        · exact hp m hm
        · rw [hn] at hm
          have:m=n:=by simpa using hm
          subst this
          exact ⟨c,c2⟩
      · rw [decide_eq_true (by omega)]
        walk_at "wr"
        exact hbad (fun z=>c2 (z n hm).2) _ _ l
    · rw [if_pos (by rw [← Bool.not_eq_true,List.contains_iff_mem];exact c)]
      exact hbad (fun z=>c (z n hm).1) _ _ l
  · subst e
    rw [List.length_map,List.take_length] at hp
    exact hok hp _ _ l
theorem a8Y {x:Str} (hx:x.length≤10000) (h:okN ((Txt.split x " ").map aX)→∀ G' q,Le G G'→G' q=some (.lst ((Txt.split x " ").map D.str))→R (.ref q) G') (hbad:¬ okN ((Txt.split x " ").map aX)→∀ G',Le G G'→EX A.cY G'):lX K A [.str x] G R EX:=by
  have b:=tK
  refine ⟨rfl,?_⟩
  show uF K A _ _ [some (.str x),none,none,none] G
  exists uF,vR
  refine ag7 hx fun q hq=>?_
  have sl:=PyProof.Rows.split_le x " "
  have l1:Le G (aL G q (.lst ((Txt.split x " ").map D.str))) := .new hq
  exists vQ
  rw [a03 kJ]
  refine comp_map (fun d => .str (aX (strOf d))) (by show ((Txt.split x " ").map D.str).length < sizeLine;rw [List.length_map];omega) kJ (fun d hd G' l Q hQ=>?_) fun q2 hq2=>?_
  · have hd:d∈(Txt.split x " ").map D.str:=hd
    obtain ⟨w,hw,rfl⟩:=List.mem_map.mp hd
    walk_at "wr"
    exact ag6 (a76 hx hw) (hQ _ (.refl _))
  · have en:((Src.lst q ((Txt.split x " ").map D.str)).items.map fun d=>D.str (aX (strOf d)))=((Txt.split x " ").map aX).map D.str:=by
      show ((Txt.split x " ").map D.str).map _=_
      rw [List.map_map,List.map_map]
      rfl
    rw [en]
    exists vP
    have l2:=l1.trans (Le.new (o := .lst (((Txt.split x " ").map aX).map D.str)) hq2)
    refine a8X (ns:=(Txt.split x " ").map aX) aF (fun ok r G' l=>?_) fun nk ρ G' l=>fB.here (hbad nk _ (l2.trans l))
    exists vO
    exact dJ.here (h ok _ _ (l2.trans l) (l _ _ (bH aF hq2)))
abbrev rP (w:Str):D := .tup [.int (idF (aX w)),.bl (Txt.startswith w "-")]
abbrev aw3:GO := .tab bC.qual (a6V (inBody cL 1))
theorem acC {x:Str} (hT:G A.eY=some aw3) (hx:x.length≤10000) (h:okN ((Txt.split x " ").map aX)→∀ G' q f,Le G G'→G' q=some (.lst ((Txt.split x " ").map rP))→G' f=some (.clo bC (.ref q))→R (.ref f) G') (hbad:¬ okN ((Txt.split x " ").map aX)→∀ G',Le G G'→EX A.cY G'):gG K A [.str x] G R EX:=by
  have b:=tK
  refine ⟨rfl,?_⟩
  show sU K A _ _ [some (.str x),none,none] G
  exists sU
  refine a8Y hx (fun ok G1 q l hq=>?_) fun nk G1 l=>fB.here (hbad nk G1 l)
  rw [a03 (aM hq)]
  have sl:=PyProof.Rows.split_le x " "
  refine comp_map (fun d=>rP (strOf d)) (by show ((Txt.split x " ").map D.str).length < sizeLine;rw [List.length_map];omega) (aM hq) (fun d hd G' l' Q hQ=>?_) fun q2 hq2=>?_
  · have hd:d∈(Txt.split x " ").map D.str:=hd
    obtain ⟨w,hw,rfl⟩:=List.mem_map.mp hd
    walk_at "wr"
    exists aw2
    refine ag6 (a76 hx hw) ?_
    have m6:=(ok (aX w) (List.mem_map.mpr ⟨w,hw,rfl⟩)).1
    obtain ⟨i1,i2,i3⟩:=alZ m6
    refine acA (ys:=six) (idF (aX w)) i2 i3 ?_
    walk_at "wr"
    exact hQ _ (.refl _)
  · have en:((Src.lst q ((Txt.split x " ").map D.str)).items.map fun d=>rP (strOf d))=(Txt.split x " ").map rP:=by
      show ((Txt.split x " ").map D.str).map _=_
      rw [List.map_map]
      rfl
    rw [en]
    walk_at "wr"
    have l2:=l.trans (Le.new (o := .lst ((Txt.split x " ").map rP)) hq2)
    refine ⟨l2 _ _ hT,_,rfl,fun f hf=>?_⟩
    exact h ok _ q2 f (l2.trans (.new hf)) (bH aF hf) aF
abbrev pcD (a p l m d c:Int):D := .tup [.tup [.int a,.int p],.int l,.int m,.int d,.int c]
abbrev nsI (a p l m d c:Int):List Int:=[d,c,m,a,p,l]
theorem aqU {a p l m d c:Int} (h:R (.tup ((nsI a p l m d c).map D.int)) G):gP K A [pcD a p l m d c] G R EX:=by
  refine ⟨rfl,?_⟩
  replace h:=dJ.here h
  show oR K A _ _ [some (pcD a p l m d c)] G
  have i3:∀ {R:dG},bN (pcD a p l m d c) (.int 3) G R=R (.int d) G:=rfl
  have i4:∀ {R:dG},bN (pcD a p l m d c) (.int 4) G R=R (.int c) G:=rfl
  exists oR,i3,i4
  exact h
def rQ (vs:List Int) (w:Str):Int:=if Txt.startswith w "-" = true then - vs.getD (idF (aX w)) 0 else vs.getD (idF (aX w)) 0
theorem acD {q:Addr} {ds:List D} (h:aZ G q=some ds):vD [.ref q] G R=R (.tup ds) G:=by
  unfold vD
  simp only [h]
def prt:D→Nat×Bool
  | .tup [.int i,.bl b]=>(i.toNat,b)
  | _=>(0,false)
theorem at6 {vs:List Int} (h6:vs.length=6) {i:Nat} (hi:i < 6):uK (vs.map D.int) (i:Int)=some (.int (vs.getD i 0)):=by
  rw [uD,List.getElem?_map,List.getElem?_eq_getElem (by omega)]
  simp [List.getD,List.getElem?_eq_getElem (show i < vs.length by omega)]
theorem a8Z {a p l m d c:Int} {q:Addr} {ws:List Str} (hq:G q=some (.lst (ws.map rP))) (h6:∀ w∈ws,aX w∈six) (hl:ws.length≤20000) (h:∀ G',Le G G'→R (.tup (ws.map fun w => .int (rQ (nsI a p l m d c) w))) G'):dO K A [.ref q,pcD a p l m d c] G R EX:=by
  have b:=tK
  refine ⟨rfl,?_⟩
  show j6 K A _ _ [some (.ref q),some (pcD a p l m d c),none] G
  exists j6
  refine aqU ?_
  exists rF
  rw [a03 (aM hq)]
  refine a6Y (fun d=>[.int (prt d).1,.bl (prt d).2]) (fun _=>true) (fun e => .int (if (prt e).2=true then - (nsI a p l m d c).getD (prt e).1 0 else (nsI a p l m d c).getD (prt e).1 0)) (by show (ws.map rP).length < sizeLine;rw [List.length_map];omega) (aM hq) (fun e he=>?_) (fun e he G' l' Q hQ=>?_) (fun e he _ G' l' Q hQ=>?_) fun q2 hq2=>?_
  · have he:e∈ws.map rP:=he
    obtain ⟨w,hw,rfl⟩:=List.mem_map.mp he
    rfl
  · exact hQ _ (.refl _)
  · have he:e∈ws.map rP:=he
    obtain ⟨w,hw,rfl⟩:=List.mem_map.mp he
    obtain ⟨i1,i2,i3⟩:=alZ (h6 w hw)
    have e0:(prt (rP w)).1=idF (aX w):=rfl
    have e1:(prt (rP w)).2=Txt.startswith w "-" := rfl
    rw [e0,e1] at hQ
    show abO _ _ _ [some (.int (idF (aX w):Nat)),some (.bl (Txt.startswith w "-")),some (.ref q),some (pcD a p l m d c),some (.tup ((nsI a p l m d c).map D.int))] G' Q
    have ix:∀ {R:dG} {G:Gp},bN (.tup ((nsI a p l m d c).map D.int)) (.int (idF (aX w):Nat)) G R=R (.int ((nsI a p l m d c).getD (idF (aX w)) 0)) G:=fun {R G}=>a4R (at6 rfl i1)
    generalize nsI a p l m d c=vs at ix hQ ⊢
    walk_at "wr"
    by_cases c:Txt.startswith w "-" = true
    · rw [if_pos c] at hQ ⊢
      exists ix
      exact hQ _ (.refl _)
    · rw [if_neg c] at hQ ⊢
      exists ix
      exact hQ _ (.refl _)
  · have en:((List.filter (fun _=>true) (Src.lst q (ws.map rP)).items).map fun e=>D.int (if (prt e).2=true then - (nsI a p l m d c).getD (prt e).1 0 else (nsI a p l m d c).getD (prt e).1 0))=ws.map fun w=>D.int (rQ (nsI a p l m d c) w):=by
      rw [List.filter_eq_self.mpr fun _ _=>rfl]
      show (ws.map rP).map _=_
      rw [List.map_map]
      rfl
    rw [en,acD kJ]
    exact dJ.here (h _ (.new hq2))
theorem aaT {p:Addr} {o:GO} (h:G p=some o) (n:a65 o=false):offC G p=some o:=by
  unfold offC
  simp only [h,n]
  rfl
theorem aqV {G':Gp} (l:Le (offC G) G'):Le G (onC G G'):=fun a o h=>by
  unfold onC
  simp only [h]
  by_cases c:a65 o=true
  · rw [if_pos c]
  · rw [if_neg c]
    exact l a o (aaT h (by simpa using c))
theorem aw4 {a p l m d c:Int} {i:Nat} {t:lO} {ρ:aQ} {q f:Addr} {ws:List Str} (hi:at3 ρ i=some (.ref f)) (hf:G f=some (.clo bC (.ref q))) (hq:G q=some (.lst (ws.map rP))) (h6:∀ w∈ws,aX w∈six) (hl:ws.length≤20000)
    (ht:∀ Q:List D→Gp→Prop,Q [pcD a p l m d c] G→t ρ G Q) (h:∀ G',Le G G'→R (.tup (ws.map fun w => .int (rQ (nsI a p l m d c) w))) G'):a3U i bC (dO K A) t ρ G R :=
  ⟨f,.ref q,hi,hf,ht _ ⟨hf,a8Z (aaT hq rfl) h6 hl fun G' l'=>h _ (aqV l')⟩⟩
def HS (G:Gp) (p:Addr) (xs:List D) (G':Gp):Prop:=G' p=some (.lst xs)∧∀ q u,q≠p→G q=some u→G' q=some u
theorem HS.le {p:Addr} {xs:List D} {G':Gp} (h:HS G p xs G'):Le (aL G p (.lst xs)) G':=fun q u e=>by
  by_cases c:q=p
  · subst c
    rw [aF] at e
    exact e ▸ h.1
  · rw [aP c] at e
    exact h.2 q u c e
theorem HS.new {p q:Addr} {xs:List D} {G':Gp} {o:GO} (h:HS G p xs G') (hq:G' q=none):HS G p xs (aL G' q o):=⟨bH h.1 hq,fun r u n e=>bH (h.2 r u n e) hq⟩
theorem HS.trans {p:Addr} {xs ys:List D} {G' G2:Gp} (h:HS G p xs G') (h2:HS G' p ys G2):HS G p ys G2:=⟨h2.1,fun r u n e=>h2.2 r u n (h.2 r u n e)⟩
theorem HS.put {p:Addr} {xs ys:List D} (h:G p=some (.lst xs)):HS G p ys (aL G p (.lst ys)):=⟨aF,fun r u n e=>by rw [aP n];exact e⟩
theorem HS.leG {p:Addr} {xs:List D} {G':Gp} (h:HS G p xs G') (hp:G p=none):Le G G':=fun r u e=>h.2 r u (fun z=>by subst z;rw [hp] at e;cases e) e
theorem HS.mk0 {p:Addr} {xs:List D}:HS G p xs (aL G p (.lst xs)):=⟨aF,fun r u n e=>by rw [aP n];exact e⟩
theorem HS.snd {p:Addr} {xs ys:List D} {G':Gp} (h:HS G p xs G'):HS G p ys (aL G' p (.lst ys)):=h.trans (.put h.1)
theorem akJ {ks:List Str} {t:lO} {ρ:aQ}:a4L ks t ρ G R=∀ p,G p=none→t ρ (aL G p (.iI false [])) fun ds G2=>G2 p=some (.iI false [])∧R (.ref p) (aL G2 p (.iI false (kvS ks ds []))):=rfl
theorem aqW {j y z:Str}:nH (.str j) [.str y,.str z] G R=(j.length+(j.length+1) * z.length≤16777216∧R (.str (Txt.replace j y z)) G):=rfl
abbrev a78:List Str:=["due", "came", "amount", "aisle", "place"]
theorem akK {a p l m d c:Int} {n:Str} (h:n∈six):(eF (kvS a78 [.int d,.int c,.int m,.int a,.int p] []) (.inl (.inr n))).getD (.int l) = .int ((nsI a p l m d c).getD (idF n) 0):=by
  have h:n = "due" ∨ n = "came" ∨ n = "amount" ∨ n = "aisle" ∨ n = "place" ∨ n = "lot" := by simpa [six] using h
  rcases h with h | h | h | h | h | h <;> (subst h;rfl)
theorem a3E {a p l m d c:Int} {q:Addr} {ws:List Str} (hq:G q=some (.lst (ws.map D.str))) (h6:∀ w∈ws,aX w∈six) (hl:ws.length≤20000) (h:∀ G' r,Le G G'→G' r=some (.lst (ws.map fun w => .int (rQ (nsI a p l m d c) w)))→R (.ref r) G'):cR K A [pcD a p l m d c,.ref q] G R EX:=by
  have b:=tK
  refine ⟨rfl,?_⟩
  show lH K A _ _ [some (pcD a p l m d c),some (.ref q),none,none,none,none,none] G
  exists lH
  intro r hr
  have nq:q≠r:=mF hq hr
  exists nY
  rw [wV (aM (bH hq hr))]
  refine a05 (fun k ρ G'=>∃ r3 r4 r5 r6,ρ=[some (pcD a p l m d c),some (.ref q),some (.ref r),r3,r4,r5,r6]∧HS G r ((ws.take k).map fun w => .int (rQ (nsI a p l m d c) w)) G') ⟨_,_,_,_,rfl,HS.mk0⟩ (fun k ρ G' ⟨_,_,_,_,_,s⟩=>aM (s.2 _ _ nq hq)) (fun k e ρ G' hk ⟨_,_,_,_,e1,s⟩=>?_) fun ρ G' ⟨_,_,_,_,e1,s⟩=>?_
  · subst e1
    rw [List.getElem?_map] at hk
    obtain ⟨w,hw,rfl⟩:=Option.map_eq_some_iff.mp hk
    have w6:=h6 w (List.mem_of_getElem? hw)
    have wl:=a0F w6
    exists lZ
    rw [aqW,akH w6]
    refine ⟨by rw [show (Str.ofString "").length=0 from rfl];omega,?_⟩
    exists iV,akJ
    intro z hz
    have i3:∀ {R:dG} {G:Gp},bN (pcD a p l m d c) (.int 3) G R=R (.int d) G:=fun {R G}=>rfl
    have i4:∀ {R:dG} {G:Gp},bN (pcD a p l m d c) (.int 4) G R=R (.int c) G:=fun {R G}=>rfl
    rw [i3,i4]
    refine ⟨aF,?_⟩
    rw [zW]
    have s2:=s.new (o := .iI false (kvS a78 [.int d,.int c,.int m,.int a,.int p] [])) hz
    have told:=akK (a:=a) (p:=p) (l:=l) (m:=m) (d:=d) (c:=c) w6
    have dz:aL G' z (.iI false (kvS a78 [.int d,.int c,.int m,.int a,.int p] [])) z=some (.iI false (kvS a78 [.int d,.int c,.int m,.int a,.int p] [])):=aF
    generalize aL G' z (.iI false (kvS a78 [.int d,.int c,.int m,.int a,.int p] []))=G2 at s2 dz ⊢
    exists iU,a6Z dz
    rw [a70 dz rfl rfl,told]
    exists iT
    have sl:∀ {R:dG},adZ (.str w) none (some 1) G2 R=R (.str (Txt.slice w none (some 1))) G2:=fun {R}=>propext ⟨fun z=>z.2,fun z=>⟨by omega,z⟩⟩
    rw [sl]
    walk_at "wr"
    have nx:∀ {v:Int} {r5 r6:Option D},v=rQ (nsI a p l m d c) w→dF K A (fun _=>fB EX) { nx:=fun ρ G'=>∃ r3 r4 r5 r6,ρ=[some (pcD a p l m d c),some (.ref q),some (.ref r),r3,r4,r5,r6]∧HS G r ((ws.take (k+1)).map fun w => .int (rQ (nsI a p l m d c) w)) G',rt:=dJ R,bk:=gJ K A (fun _=>fB EX) { nx:=fun _ G'=>dJ R .non G',rt:=dJ R },ct:=fun ρ G'=>∃ r3 r4 r5 r6,ρ=[some (pcD a p l m d c),some (.ref q),some (.ref r),r3,r4,r5,r6]∧HS G r ((ws.take (k+1)).map fun w => .int (rQ (nsI a p l m d c) w)) G' } [some (pcD a p l m d c),some (.ref q),some (.ref r),some (.str w),r5,r6,some (.int v)] G2:=fun {v r5 r6} ev=>by
      subst ev
      exists dF
      rw [oJ,aM s2.1]
      refine ⟨rfl,?_⟩
      rw [vK s2.1 (by rw [List.length_map,List.length_take];omega)]
      refine ⟨_,_,_,_,rfl,?_⟩
      have en:(ws.take (k+1)).map (fun w=>D.int (rQ (nsI a p l m d c) w))=(ws.take k).map (fun w=>D.int (rQ (nsI a p l m d c) w))++[.int (rQ (nsI a p l m d c) w)]:=by
        rw [List.take_add_one,hw,List.map_append]
        rfl
      rw [en]
      exact s2.snd
    by_cases cc:Txt.startswith w "-" = true
    · have e0:Txt.slice w none (some 1)=Str.ofString "-" := of_decide_eq_true ((a0E w).trans cc)
      rw [if_pos (by simp [e0])]
      walk_at "wr"
      refine nx ?_
      unfold rQ
      rw [if_pos cc]
      omega
    · have e0:¬ Txt.slice w none (some 1)=Str.ofString "-" := of_decide_eq_false ((a0E w).trans (by simpa using cc))
      rw [if_neg (by simpa using e0)]
      walk_at "wr"
      refine nx ?_
      unfold rQ
      rw [if_neg cc]
  · subst e1
    rw [List.length_map,List.take_length] at s
    exists gJ
    exact dJ.here (h _ _ (s.leG hr) s.1)
def cellAt (ns:List Int) (k:Nat):Int:=if k < ns.length then ns.getD k 0 else if ns=[] then 0 else
  let m:=(ns.getD (k % ns.length) 0 * 48271+k * 104729) % 2147483647
  (m * m+48271 * k) % 2147483629
theorem a0G {a:Addr} {ns:List Int} (hG:G a=some (.rol (ns.map D.int))) {k:Nat} (hk:k < 1000) (h:R (.int (cellAt ns k)) G):bJ K A [.ref a,.int (k:Int)] G R EX:=by
  refine ⟨rfl,?_⟩
  replace h:=dJ.here h
  show lB K A _ _ [some (.ref a),some (.int k),none] G
  exists lB,sO (rC hG)
  by_cases c:k < ns.length
  · rw [if_pos (decide_eq_true (by omega))]
    have e:uK (ns.map D.int) (k:Int)=some (.int (ns.getD k 0)):=by rw [uD];simp [c,List.getD]
    rw [oK (rC hG) e]
    rw [show cellAt ns k=ns.getD k 0 by unfold cellAt;rw [if_pos c]] at h
    exact h
  · rw [if_neg (by simp;omega)]
    exists nW,sO (rC hG)
    by_cases hn:ns=[]
    · subst hn
      rw [show cellAt [] k=0 by unfold cellAt;simp] at h
      exact h
    · have h0:0 < (ns.length:Int):=by cases ns with
        | nil=>exact absurd rfl hn
        | cons n r=>simp
      have e0:((ns.length:Int) == 0)=false:=by simp;exact hn
      rw [e0]
      exists nU,sO (rC hG)
      have hm:k % ns.length < ns.length:=Nat.mod_lt _ (by omega)
      have e2:uK (ns.map D.int) ((k:Int) % (ns.length:Int))=some (.int (ns.getD (k % ns.length) 0)):=by
        rw [← Int.natCast_emod,uD];simp [hm,List.getD]
      rw [oK (rC hG) e2]
      exists nR
      have ec:cellAt ns k=((ns.getD (k % ns.length) 0 * 48271+(k:Int) * 104729) % 2147483647 * ((ns.getD (k % ns.length) 0 * 48271+(k:Int) * 104729) % 2147483647)+48271 * (k:Int)) % 2147483629:=by
        unfold cellAt
        rw [if_neg c,if_neg hn]
      rw [← ec]
      exact h
structure Pc where
  a:Int
  p:Int
  l:Int
  m:Int
  d:Int
  c:Int
abbrev pD (x:Pc):D:=pcD x.a x.p x.l x.m x.d x.c
abbrev nX (x:Pc):List Int:=nsI x.a x.p x.l x.m x.d x.c
def nM (ws:List Str) (x:Pc):List Int:=ws.map (rQ (nX x))
def fL (ws:List Str) (x:Pc):List Int:=nM ws x++[x.a,x.p,x.l]
def k3F (ws:List Str) (x:Pc):K3:=(nM ws x,[x.a,x.p],x.l)
theorem rR:∀ x:List Int,HT.lexLt x x=false
  | []=>rfl
  | a :: r=>by rw [HT.cN,if_pos rfl,rR r]
theorem a0H:∀ {x y z:List Int},HT.lexLt x y=true→HT.lexLt y z=true→HT.lexLt x z=true
  | [],_,[],_,h=>by
    rename_i y _
    cases y <;> cases h
  | [],_,_ :: _,_,_=>rfl
  | _ :: _,[],_,h,_=>by cases h
  | _ :: _,_ :: _,[],_,h=>by cases h
  | a :: x,b :: y,c :: z,h1,h2=>by
    rw [HT.cN] at h1 h2 ⊢
    by_cases e1:a=b
    · subst e1
      rw [if_pos rfl] at h1
      by_cases e2:a=c
      · subst e2
        rw [if_pos rfl] at h2 ⊢
        exact a0H h1 h2
      · rw [if_neg e2] at h2 ⊢
        exact h2
    · rw [if_neg e1] at h1
      have h1:=of_decide_eq_true h1
      by_cases e2:b=c
      · subst e2
        rw [if_neg e1]
        exact decide_eq_true h1
      · rw [if_neg e2] at h2
        have h2:=of_decide_eq_true h2
        rw [if_neg (by omega)]
        exact decide_eq_true (by omega)
theorem yM:∀ {x y:List Int},x≠y→HT.lexLt x y=true∨HT.lexLt y x=true
  | [],[],h=>absurd rfl h
  | [],_ :: _,_ => .inl rfl
  | _ :: _,[],_ => .inr rfl
  | a :: x,b :: y,h=>by
    rw [HT.cN,HT.cN]
    by_cases e:a=b
    · subst e
      rw [if_pos rfl,if_pos rfl]
      exact yM fun z=>h (by rw [z])
    · rw [if_neg e,if_neg (fun z=>e z.symm)]
      rcases Int.lt_or_gt_of_ne e with c | c
      · exact .inl (decide_eq_true c)
      · exact .inr (decide_eq_true c)
theorem ag8 {x y:List Int} (h:HT.lexLt x y=true):HT.lexLt y x=false:=by
  cases e:HT.lexLt y x with
  | false=>rfl
  | true =>
    have:=a0H h e
    rw [rR] at this
    cases this
theorem yN:∀ {x y b d:List Int},x.length=y.length→HT.lexLt (x++b) (y++d)=if x=y then HT.lexLt b d else HT.lexLt x y
  | [],[],_,_,_=>by simp
  | [],_ :: _,_,_,h=>by simp at h
  | _ :: _,[],_,_,h=>by simp at h
  | a :: x,c :: y,b,d,h=>by
    rw [List.cons_append,List.cons_append,HT.cN,HT.cN,yN (by simpa using h)]
    by_cases e:a=c
    · subst e
      rw [if_pos rfl,if_pos rfl]
      by_cases z:x=y
      · rw [if_pos z,if_pos (by rw [z])]
      · rw [if_neg z,if_neg (fun q=>z (by injection q))]
    · rw [if_neg e,if_neg e,if_neg (fun q=>e (by injection q))]
theorem a90 {ws:List Str} {x y:Pc}:(nM ws x).length=(nM ws y).length:=by unfold nM;rw [List.length_map,List.length_map]
theorem aqX (ws:List Str) (x y:Pc):ltK (k3F ws x) (k3F ws y)=HT.lexLt (fL ws x) (fL ws y):=by
  unfold ltK k3F fL
  rw [yN a90]
  dsimp only
  by_cases e:nM ws x=nM ws y
  · rw [if_pos e,if_pos e]
    rw [show [x.a,x.p,x.l]=[x.a,x.p]++[x.l] from rfl,show [y.a,y.p,y.l]=[y.a,y.p]++[y.l] from rfl,yN (x:=[x.a,x.p]) (y:=[y.a,y.p]) rfl]
    by_cases e2:[x.a,x.p]=[y.a,y.p]
    · rw [if_pos e2,if_pos e2,HT.cN]
      by_cases e3:x.l=y.l
      · rw [if_pos e3,e3]
        exact decide_eq_false (Int.lt_irrefl _)
      · rw [if_neg e3]
    · rw [if_neg e2,if_neg e2]
  · rw [if_neg e,if_neg e]
theorem ag9 {p q:List Int→Bool}:∀ {F:List (List Int)},(∀ z∈F,p z=true→q z=true)→(∃ z∈F,q z=true∧p z=false)→F.countP p < F.countP q
  | [],_,⟨z,h,_⟩=>nomatch h
  | a :: r,h,⟨z,hz,q1,p1⟩=>by
    have le:r.countP p≤r.countP q:=List.countP_mono_left fun z hz=>h z (List.mem_cons_of_mem _ hz)
    rw [List.countP_cons,List.countP_cons]
    rcases List.mem_cons.mp hz with rfl | hz
    · rw [q1,p1]
      simp
      omega
    · have ih:=ag9 (fun z hz=>h z (List.mem_cons_of_mem _ hz)) ⟨z,hz,q1,p1⟩
      cases e:p a with
      | false=>simp;split <;> omega
      | true=>rw [h a List.mem_cons_self e];simp;omega
def rk (F:List (List Int)) (i:Nat):Int:=(F.countP fun z=>HT.lexLt z (F.getD i []):Nat)
theorem aaU {F:List (List Int)} {i j:Nat} (hi:i < F.length) (h:HT.lexLt (F.getD i []) (F.getD j [])=true):rk F i < rk F j:=by
  unfold rk
  have:=ag9 (p:=fun z=>HT.lexLt z (F.getD i [])) (q:=fun z=>HT.lexLt z (F.getD j [])) (F:=F) (fun z _ hz=>a0H hz h) ⟨F.getD i [],by rw [getD_at hi];exact List.getElem_mem _,h,rR _⟩
  omega
theorem agA {F:List (List Int)} (nd:F.Nodup) {i j:Nat} (hi:i < F.length) (hj:j < F.length) (e:F.getD i []=F.getD j []):i=j:=by
  rw [getD_at hi,getD_at hj] at e
  have key:=List.pairwise_iff_getElem.mp nd
  rcases Nat.lt_trichotomy i j with w | w | w
  · exact absurd e (key _ _ hi hj w)
  · exact w
  · exact absurd e.symm (key _ _ hj hi w)
theorem agB {F:List (List Int)} (nd:F.Nodup) {i j:Nat} (hi:i < F.length) (hj:j < F.length) (e:rk F i=rk F j):i=j:=by
  refine agA nd hi hj ?_
  by_cases c:F.getD i []=F.getD j []
  · exact c
  · rcases yM c with z | z
    · have:=aaU hi z;omega
    · have:=aaU hj z;omega
theorem agC {F:List (List Int)} (nd:F.Nodup) {i j:Nat} (hi:i < F.length) (hj:j < F.length):HT.lexLt (F.getD i []) (F.getD j [])=decide (rk F i < rk F j):=by
  by_cases c:F.getD i []=F.getD j []
  · have:=agA nd hi hj c
    subst this
    rw [rR]
    exact (decide_eq_false (Int.lt_irrefl _)).symm
  · rcases yM c with z | z
    · rw [z]
      exact (decide_eq_true (aaU hi z)).symm
    · rw [ag8 z]
      exact (decide_eq_false (by have:=aaU hj z;omega)).symm
def Tn (ws:List Str) (qs:List Pc):Prop:=qs.Pairwise fun x y=>HT.lexLt (fL ws x) (fL ws y)=true
theorem agD {ws:List Str} {xs ys zs:List Pc} (hx:xs.Perm zs) (hy:ys.Perm zs) (tx:Tn ws xs) (ty:Tn ws ys):xs=ys :=
  (hx.trans hy.symm).eq_of_pairwise (fun a b _ _ h1 h2=>by rw [ag8 h1] at h2;cases h2) tx ty
def ky3 (x:Pc):List Int:=[x.a,x.p,x.l]
def Unl (ps:List Pc):Prop:=(ps.map ky3).Nodup
theorem aqY {ws:List Str} {x y:Pc} (h:fL ws x=fL ws y):ky3 x=ky3 y:=by
  unfold fL at h
  exact (List.append_inj h a90).2
theorem a91 {ws:List Str} {ps:List Pc} (h:Unl ps):(ps.map (fL ws)).Nodup:=by
  unfold Unl List.Nodup at h
  unfold List.Nodup
  rw [List.pairwise_map] at h ⊢
  exact h.imp fun h z=>h (aqY z)
theorem acE {ws:List Str} {ps:List Pc} (h:Unl ps) {q:Array Nat} (P:Pm ps.length q) (u:Up (rk (ps.map (fL ws))) q ps.length):∃ qs:List Pc,(q.toList.map fun i=>(ps.map pD).getD i .non)=qs.map pD∧qs.Perm ps∧Tn ws qs:=by
  have nd:=a91 (ws:=ws) h
  have hin:∀ i∈q.toList,i < ps.length:=fun i hi=>List.mem_range.mp (P.perm.mem_iff.mp hi)
  have gp:∀ i,i < ps.length→(ps.map (fL ws)).getD i []=fL ws (ps.getD i ⟨0,0,0,0,0,0⟩):=fun i hi=>by simp [List.getD,hi]
  refine ⟨q.toList.map fun i=>ps.getD i ⟨0,0,0,0,0,0⟩,?_,?_,?_⟩
  · rw [List.map_map]
    refine List.map_congr_left fun i hi=>?_
    have:=hin i hi
    simp [List.getD,this]
  · have id0:(List.range ps.length).map (fun i=>ps.getD i ⟨0,0,0,0,0,0⟩)=ps:=by
      apply List.ext_getElem (by simp)
      intro i h1 h2
      simp [h2]
    have:=P.perm.map fun i=>ps.getD i ⟨0,0,0,0,0,0⟩
    rw [id0] at this
    exact this
  · unfold Tn
    rw [List.pairwise_map,List.pairwise_iff_getElem]
    intro i j hi hj hij
    have li:i < q.size:=by simpa using hi
    have lj:j < q.size:=by simpa using hj
    have gi:q.toList[i]=q.getD i 0:=by simp [Array.getD,li]
    have gj:q.toList[j]=q.getD j 0:=by simp [Array.getD,lj]
    rw [gi,gj]
    have bi:=P.lt (i:=i) (by rw [← P.size];exact li)
    have bj:=P.lt (i:=j) (by rw [← P.size];exact lj)
    rw [← gp _ bi,← gp _ bj,agC nd (by rw [List.length_map];exact bi) (by rw [List.length_map];exact bj)]
    have le:rk (ps.map (fL ws)) (q.getD i 0)≤rk (ps.map (fL ws)) (q.getD j 0):=u i j (Nat.le_of_lt hij) (by rw [← P.size];exact lj)
    refine decide_eq_true ?_
    rcases Int.lt_or_eq_of_le le with z | z
    · exact z
    · exfalso
      have e:=agB nd (by rw [List.length_map];exact bi) (by rw [List.length_map];exact bj) z
      have:=P.inj (by rw [← P.size];exact li) (by rw [← P.size];exact lj) e
      omega
theorem aqZ {ws:List Str} {qs:List Pc} {x:Pc} {j:Nat} (t:Tn ws qs) (hj:j≤qs.length) (nx:∀ y∈qs,fL ws x≠fL ws y) (hb:∀ i y,j≤i→qs[i]?=some y→HT.lexLt (fL ws x) (fL ws y)=true) (ha:∀ y,0 < j→qs[j - 1]?=some y→HT.lexLt (fL ws x) (fL ws y)=false):Tn ws (qs.take j++x :: qs.drop j)∧(qs.take j++x :: qs.drop j).Perm (qs++[x]):=by
  constructor
  · unfold Tn at t ⊢
    rw [List.pairwise_append,List.pairwise_cons]
    refine ⟨t.sublist (List.take_sublist _ _),⟨fun y hy=>?_,t.sublist (List.drop_sublist _ _)⟩,fun y hy z hz=>?_⟩
    · obtain ⟨i,hi⟩:=List.mem_iff_getElem?.mp hy
      rw [List.getElem?_drop] at hi
      exact hb _ y (by omega) hi
    · obtain ⟨i,hi⟩:=List.mem_iff_getElem?.mp hy
      rw [List.getElem?_take] at hi
      split at hi
      · rename_i ij
        have hlt:i < qs.length:=by omega
        have yx:HT.lexLt (fL ws y) (fL ws x)=true:=by
          obtain ⟨w,hw⟩:∃ w,qs[j - 1]?=some w:=⟨_,List.getElem?_eq_getElem (by omega)⟩
          have n1:=ha w (by omega) hw
          have w1:HT.lexLt (fL ws w) (fL ws x)=true:=by
            rcases yM (nx w (List.mem_of_getElem? hw)) with z | z
            · rw [n1] at z;cases z
            · exact z
          by_cases c:i=j - 1
          · rw [c,hw] at hi
            cases hi
            exact w1
          · have:=List.pairwise_iff_getElem.mp t i (j - 1) hlt (by omega) (by omega)
            rw [(List.getElem?_eq_some_iff.mp hi).2,(List.getElem?_eq_some_iff.mp hw).2] at this
            exact a0H this w1
        rcases List.mem_cons.mp hz with rfl | hz
        · exact yx
        · obtain ⟨i2,hi2⟩:=List.mem_iff_getElem?.mp hz
          rw [List.getElem?_drop] at hi2
          exact a0H yx (hb _ z (by omega) hi2)
      · cases hi
  · have:(qs.take j++x :: qs.drop j).Perm (x :: (qs.take j++qs.drop j)):=List.perm_middle
    rw [List.take_append_drop] at this
    exact this.trans (List.perm_append_comm (l₁:=[x]) (l₂:=qs))
theorem aaV {c:Nat}:∀ {a b r q:List Nat},c ∉ a→c ∉ b→a++c :: r=b++c :: q→a=b∧r=q
  | [],[],_,_,_,_,h=>by simpa using h
  | [],y :: b,_,_,_,hb,h=>by
    simp at h
    exact absurd (by simp [h.1]) hb
  | x :: a,[],_,_,ha,_,h=>by
    simp at h
    exact absurd (by simp [h.1]) ha
  | x :: a,y :: b,r,q,ha,hb,h=>by
    simp only [List.cons_append,List.cons.injEq] at h
    obtain ⟨e1,e2⟩:=aaV (fun z=>ha (by simp [z])) (fun z=>hb (by simp [z])) h.2
    exact ⟨by rw [h.1,e1],e2⟩
abbrev blk:Str:=⟨#[32]⟩
theorem aaW (x y:Str) (r:List Str):(Str.join blk (x :: y :: r)).cps.toList=x.cps.toList++32 :: (Str.join blk (y :: r)).cps.toList:=by
  show ((x.cps++#[32])++(Str.join blk (y :: r)).cps).toList=_
  simp
theorem aaX {x y:Str} (h:x.cps.toList=y.cps.toList):x=y:=by
  have:x.cps=y.cps:=Array.toList_inj.mp h
  cases x
  cases y
  simp at this
  rw [this]
theorem join_one:∀ {xs ys:List Str},xs≠[]→ys≠[]→(∀ x∈xs,32 ∉ x.cps.toList)→(∀ y∈ys,32 ∉ y.cps.toList)→(Str.join blk xs).cps.toList=(Str.join blk ys).cps.toList→xs=ys
  | [],_,h,_,_,_,_=>absurd rfl h
  | _ :: _,[],_,h,_,_,_=>absurd rfl h
  | [x],[y],_,_,_,_,h=>by rw [aaX (show x.cps.toList=y.cps.toList from h)]
  | [x],y :: z :: r,_,_,hx,_,h=>by
    rw [aaW] at h
    have h:x.cps.toList=_:=h
    exact absurd (by rw [h];simp) (hx x (by simp))
  | x :: z :: r,[y],_,_,_,hy,h=>by
    rw [aaW] at h
    have h:_=y.cps.toList:=h
    exact absurd (by rw [← h];simp) (hy y (by simp))
  | x :: x2 :: r,y :: y2 :: q,_,_,hx,hy,h=>by
    rw [aaW,aaW] at h
    obtain ⟨e1,e2⟩:=aaV (hx x (by simp)) (hy y (by simp)) h
    rw [aaX e1,join_one (xs:=x2 :: r) (ys:=y2 :: q) (by simp) (by simp) (fun z hz=>hx z (List.mem_cons_of_mem _ hz)) (fun z hz=>hy z (List.mem_cons_of_mem _ hz)) e2]
theorem a0I {ws:List Str} (h0:ws≠[]) (h:∀ w∈ws,aX w∈six):Txt.split (Txt.join " " ws) " " = ws:=by
  have eb:(Str.ofString " ")=blk:=by decide
  have free:∀ w∈ws,32 ∉ w.cps.toList:=fun w hw=>by
    have key:∀ w∈a5A,32 ∉ w.cps.toList:=by decide +kernel
    exact key w (xA (h w hw))
  rw [eb]
  have ej:Txt.join blk ws=Str.join blk ws:=StrLaws.glued_eq_join blk ws
  rw [ej]
  refine join_one (fun z=>?_) h0 (StrLaws.split_free _ 32) free ?_
  · have:=PyProof.Rows.split_pos (Str.join blk ws) blk
    rw [z] at this
    simp at this
  · rw [StrLaws.join_split]
theorem agF:∀ (l:List Str) (j:Nat),(l.map D.str).eraseIdx j=(l.eraseIdx j).map D.str
  | [],_=>rfl
  | _ :: _,0=>rfl
  | a :: r,j+1=>by
    show D.str a :: (r.map D.str).eraseIdx j=D.str a :: (r.eraseIdx j).map D.str
    rw [agF r j]
def aw5 (G:Gp) (p q:Addr) (xs ys:List D) (G':Gp):Prop:=G' p=some (.lst xs)∧G' q=some (.lst ys)∧∀ r u,r≠p→r≠q→G r=some u→G' r=some u
def vW (ls ws:List Str):Prop:=(ls++ws.map aX).Perm six
theorem a79 {w:Str} (h:w∈six):aX w=w∧aX (Str.ofString "-" ++ w)=w∧aX (Str.ofString "" ++ w)=w:=by
  have key:∀ w∈six,aX w=w∧aX (Str.ofString "-" ++ w)=w∧aX (Str.ofString "" ++ w)=w:=by decide +kernel
  exact key w h
theorem a0J {ls ws:List Str} (h:vW ls ws):(∀ w∈ls,w∈six)∧okN (ws.map aX)∧(∀ w∈ws,aX w∈six)∧ls.length+ws.length=6:=by
  have h0:=h
  unfold vW at h
  have nd:(ls++ws.map aX).Nodup:=h.nodup_iff.mpr (by decide +kernel)
  refine ⟨fun w hw=>h.mem_iff.mp (List.mem_append_left _ hw),fun n hn=>⟨h.mem_iff.mp (List.mem_append_right _ hn),?_⟩,fun w hw=>h.mem_iff.mp (List.mem_append_right _ (List.mem_map.mpr ⟨w,hw,rfl⟩)),?_⟩
  · have:=List.nodup_iff_count.mp (List.nodup_append.mp nd).2.1 n
    exact this
  · have:=h.length_eq
    rw [List.length_append,List.length_map] at this
    exact this
theorem aaY:∀ {l:List Str} {j:Nat} (h:j < l.length),(l[j] :: l.eraseIdx j).Perm l
  | _ :: _,0,_ => .refl _
  | a :: r,j+1,h=>by
    have h':j < r.length:=by simpa using h
    show (r[j] :: a :: r.eraseIdx j).Perm (a :: r)
    exact (List.Perm.swap _ _ _).trans ((aaY h').cons a)
theorem a92 {ls ws:List Str} {j:Nat} {w:Str} (h:vW ls ws) (hj:j < ls.length) (hw:aX w=ls[j]):vW (ls.eraseIdx j) (ws++[w]):=by
  unfold vW at h ⊢
  refine List.Perm.trans ?_ h
  rw [List.map_append,List.map_cons,List.map_nil,hw,← List.append_assoc]
  have e:ls.Perm (ls[j] :: ls.eraseIdx j):=(aaY hj).symm
  refine List.Perm.trans ?_ (e.symm.append_right _)
  exact (List.perm_append_comm (l₁:=ls.eraseIdx j++ws.map aX) (l₂:=[ls[j]]))
theorem a93 {F:dH} {ex:aQ→aY} {a l p:Addr} {ns:List Int} {ls ws:List Str} {k:Nat} {r2:Option D} (hG:G a=some (.rol (ns.map D.int))) (hl:G l=some (.lst (ls.map D.str))) (hp:G p=some (.lst (ws.map D.str))) (nlp:l≠p) (l0:0 < ls.length) (dl:vW ls ws) (hk:k < 100)
    (h:∀ G' r2 w j,aw5 G l p ((ls.eraseIdx j).map D.str) ((ws++[w]).map D.str) G'→vW (ls.eraseIdx j) (ws++[w])→F.nx [some (.ref a),some (.ref l),r2,some (.ref p),some (.int (k:Int))] G'):iM K A ex F [some (.ref a),some (.ref l),r2,some (.ref p),some (.int (k:Int))] G:=by
  have b:=tK
  obtain ⟨d1,_,_,d4⟩:=a0J dl
  exists iM
  rw [show (2:Int)+(k:Int)=((2+k:Nat):Int) by omega]
  refine a0G hG (by omega) ?_
  exists lY
  rw [oJ,aM hp]
  refine ⟨rfl,fun z hz=>?_⟩
  generalize cellAt ns (2+k)=c
  obtain ⟨s,es,ls1,bs⟩:∃ s:Str,uK [D.str "",.str "-"] (c % 2)=some (.str s)∧s.length≤1∧∀ w∈six,aX (s++w)=w:=by
    rcases (show c % 2=0∨c % 2=1 by omega) with e | e
    · rw [e];exact ⟨"",rfl,by decide,fun w hw=>(a79 hw).2.2⟩
    · rw [e];exact ⟨"-",rfl,by decide,fun w hw=>(a79 hw).2.1⟩
  rw [oK kJ es]
  have hl1:=bH (o := .lst [D.str "",.str "-"]) hl hz
  have hp1:=bH (o := .lst [D.str "",.str "-"]) hp hz
  have old:∀ q u,G q=some u→aL G z (.lst [D.str "",.str "-"]) q=some u:=fun q u e=>bH e hz
  generalize aL G z (.lst [D.str "",.str "-"])=G1 at hl1 hp1 old ⊢
  rw [oJ,aM hl1]
  refine ⟨rfl,?_⟩
  rw [sO (aM hl1),List.length_map]
  have nz:(ls.length:Int)≠0:=by omega
  walk_at "wr"
  obtain ⟨j,ej,hj⟩:∃ j:Nat,c / 2 % (ls.length:Int)=(j:Int)∧j < ls.length:=by
    have h0:=Int.emod_nonneg (c / 2) nz
    have h1:=Int.emod_lt_of_pos (c / 2) (show (0:Int) < ls.length by omega)
    exact ⟨(c / 2 % (ls.length:Int)).toNat,by omega,by omega⟩
  rw [ej]
  have m6:=d1 _ (List.getElem_mem hj)
  have nl:(ls[j]).length≤6:=by
    have key:∀ w∈six,w.length≤6:=by decide +kernel
    exact key _ m6
  refine akG hl1 (d := .str ls[j]) (by rw [List.getElem?_map,List.getElem?_eq_getElem hj];rfl) ?_
  rw [ac9 (by omega)]
  walk_at "wr"
  rw [vK (show aL G1 l _ p=some (.lst (ws.map D.str)) by rw [aP (Ne.symm nlp)];exact hp1) (by rw [List.length_map];omega)]
  refine h _ _ (s++ls[j]) j ⟨?_,?_,fun r u n1 n2 e=>?_⟩ (a92 dl hj (bs _ m6))
  · rw [aP nlp,aF,agF]
  · rw [aF,List.map_append]
    rfl
  · rw [aP n2,aP n1]
    exact old _ _ e
theorem akL {a:Addr} {ns:List Int} (hG:G a=some (.rol (ns.map D.int))) (h:∀ G' p ws,Le G G'→G' p=some (.lst (ws.map D.str))→ws≠[]→okN (ws.map aX)→(∀ w∈ws,aX w∈six)→ws.length≤6→R (.ref p) G'):gR K A [.ref a] G R EX:=by
  have b:=tK
  refine ⟨rfl,?_⟩
  show oU K A _ _ [some (.ref a),none,none,none,none] G
  exists oU
  intro l hl
  have l1:Le G (aL G l (.lst (six.map D.str))) := .new hl
  exists rK
  refine a0G (k:=1) (l1 _ _ hG) (by decide) ?_
  generalize cellAt ns 1=c
  exists rJ
  intro p hp
  have nlp:l≠p:=fun z=>by subst z;rw [show aL G l _ l=_ from aF] at hp;cases hp
  have hp0:G p=none:=l1.free hp
  have na:a≠l:=mF hG hl
  have na2:a≠p:=mF hG hp0
  have c0:=Int.emod_nonneg c (show (6:Int)≠0 by decide)
  have c1:=Int.emod_lt_of_pos c (show (0:Int) < 6 by decide)
  exists rH
  refine a04 (fun k ρ G'=>∃ r2 r4 ls ws,ρ=[some (.ref a),some (.ref l),r2,some (.ref p),r4]∧aw5 G l p (ls.map D.str) (ws.map D.str) G'∧vW ls ws∧ws.length=k) ⟨_,_,six,[],rfl,⟨bH aF hp,aF,fun r u n1 n2 e=>bH (bH e hl) hp⟩,by unfold vW;simp,rfl⟩ (fun k ρ G' hk ⟨r2,r4,ls,ws,e1,s,dl,e4⟩=>?_) fun ρ G' ⟨r2,r4,ls,ws,e1,s,dl,e4⟩=>?_
  · subst e1
    have d4:=(a0J dl).2.2.2
    walk_at "wr"
    refine a93 (s.2.2 _ _ na na2 hG) s.1 s.2.1 nlp (by omega) dl (by omega) fun G2 r2 w j s2 dl2=>?_
    refine ⟨_,_,_,_,rfl,⟨s2.1,s2.2.1,fun r u n1 n2 e=>s2.2.2 r u n1 n2 (s.2.2 r u n1 n2 e)⟩,dl2,?_⟩
    rw [List.length_append];show ws.length+1=k+1;omega
  · subst e1
    obtain ⟨_,d2,d3,d4⟩:=a0J dl
    exists rG
    refine dJ.here (h G' p ws (fun r u e=>s.2.2 r u (mF e hl) (mF e hp0) e) s.2.1 (fun z=>?_) d2 d3 (by omega))
    subst z
    simp at e4
    omega
theorem aw6 {ws:List Str} {x:Pc}:k3D (k3F ws x) = .tup [.tup (ws.map fun w => .int (rQ (nX x) w)),.tup [.int x.a,.int x.p],.int x.l]:=by
  unfold k3D k3F nM
  rw [List.map_map]
  rfl
theorem a7A {f q:Addr} {ws:List Str} (hf:G f=some (.clo bC (.ref q))) (hq:G q=some (.lst (ws.map rP))) (h6:∀ w∈ws,aX w∈six) (hw:ws.length≤20000) {C:List D→Gp→Prop}:∀ (rest done:List Pc) (G':Gp),Le G G'→(∀ G2,Le G G2→C ((done++rest).map fun x=>k3D (k3F ws x)) G2)→u6 (fJ K A) (.ref f) C (rest.map pD) (done.map fun x=>k3D (k3F ws x)) G'
  | [],done,G',l,h=>by
    rw [List.append_nil] at h
    exact h G' l
  | x :: rest,done,G',l,h=>by
    show fJ K A [.ref f,pD x] G' _ _
    refine ⟨rfl,?_⟩
    show gQ K A _ [some (.ref f),some (pD x)] G' _
    exists gQ
    refine aw4 rfl (l _ _ hf) (l _ _ hq) h6 hw (fun Q z=>z) fun G2 l2=>?_
    have e:done.map (fun x=>k3D (k3F ws x))++[.tup [.tup (ws.map fun w => .int (rQ (nX x) w)),.tup [.int x.a,.int x.p],.int x.l]]=(done++[x]).map fun x=>k3D (k3F ws x):=by
      rw [List.map_append,← aw6]
      rfl
    rw [e]
    refine a7A hf hq h6 hw rest (done++[x]) G2 (l.trans l2) fun G3 l3=>?_
    rw [List.append_assoc]
    exact h G3 l3
abbrev aw7:GO := .tab bO.qual bO.pos
theorem a3F {l f q:Addr} {ps:List Pc} {ws:List Str} (hl:aZ G l=some (ps.map pD)) (hf:G f=some (.clo bC (.ref q))) (hq:G q=some (.lst (ws.map rP))) (hT:G A.eZ=some aw7) (h6:∀ w∈ws,aX w∈six) (hw:ws.length≤20000) (pl:ps.length≤40) (un:Unl ps)
    (h:∀ G' r qs,Le G G'→G r=none→G' r=some (.lst (qs.map pD))→qs.Perm ps→Tn ws qs→R (.ref r) G'):lA K A [.ref l,.ref f] G R EX:=by
  refine ⟨rfl,?_⟩
  refine ⟨l,ps.map pD,.ref f,rfl,hl,by rw [List.length_map];omega,rfl,hT,?_⟩
  refine a7A hf hq h6 hw ps [] G (.refl G) fun G2 l2=>?_
  have nd:=a91 (ws:=ws) un
  have gl:∀ i x,(ps.map (k3F ws))[i]?=some x→i < ps.length∧∃ y,ps[i]?=some y∧x=k3F ws y∧(ps.map (fL ws)).getD i []=fL ws y:=fun i x e=>by
    rw [List.getElem?_map] at e
    obtain ⟨y,e1,e2⟩:=Option.map_eq_some_iff.mp e
    refine ⟨(List.getElem?_eq_some_iff.mp e1).1,y,e1,e2.symm,?_⟩
    simp [List.getD,e1]
  refine ⟨ps.map (k3F ws),rk (ps.map (fL ws)),by rw [List.nil_append,List.map_map];rfl,fun i j a b ea eb=>?_,fun i j hi hj e=>?_,fun qa P u r hr=>?_⟩
  · obtain ⟨hi,x,_,rfl,gx⟩:=gl i a ea
    obtain ⟨hj,y,_,rfl,gy⟩:=gl j b eb
    rw [aqX,← gx,← gy]
    exact agC nd (by rw [List.length_map];exact hi) (by rw [List.length_map];exact hj)
  · rw [List.length_map] at hi hj
    exact agB nd (by rw [List.length_map];exact hi) (by rw [List.length_map];exact hj) e
  · rw [List.length_map] at P u
    obtain ⟨qs,e,p1,p2⟩:=acE un P u
    rw [e]
    exact h _ r qs (l2.trans (.new hr)) (l2.free hr) aF p1 p2
theorem ar0 {x y:List Int} {k:Nat} {u v:Int} (e:x.take k=y.take k) (hx:x[k]?=some u) (hy:y[k]?=some v) (n:u≠v):HT.lexLt x y=decide (u < v):=by
  obtain ⟨lx,ex⟩:=List.getElem?_eq_some_iff.mp hx
  obtain ⟨ly,ey⟩:=List.getElem?_eq_some_iff.mp hy
  have e1:x=x.take k++u :: x.drop (k+1):=by rw [← ex,← List.drop_eq_getElem_cons lx,List.take_append_drop]
  have e2:y=x.take k++v :: y.drop (k+1):=by rw [e,← ey,← List.drop_eq_getElem_cons ly,List.take_append_drop]
  rw [e1]
  generalize hz:x.take k=z at *
  rw [e2,yN rfl,if_pos rfl,HT.cN,if_neg n]
theorem ints_get {xs:List Int} {k:Nat} {u:Int} (h:xs[k]?=some u):uK (xs.map D.int) (k:Int)=some (.int u):=by
  rw [uD,List.getElem?_map,h]
  rfl
theorem agG {ws:List Str} {x:Pc}:(ws.map fun w=>D.int (rQ (nX x) w))++[.int x.a,.int x.p,.int x.l]=(fL ws x).map D.int:=by
  unfold fL nM
  rw [List.map_append,List.map_map]
  rfl
theorem akM {q:Addr} {x y:Pc} {ws:List Str} (hq:G q=some (.lst (ws.map D.str))) (h6:∀ w∈ws,aX w∈six) (hl:ws.length≤6) (h:∀ G',Le G G'→R (.bl (HT.lexLt (fL ws x) (fL ws y))) G'):gU K A [pD x,pD y,.ref q] G R EX:=by
  have b:=tK
  refine ⟨rfl,?_⟩
  show oV K A _ _ [some (pD x),some (pD y),some (.ref q),none,none,none] G
  exists oV
  refine a3E hq h6 (by omega) fun G1 r1 l1 hr1=>?_
  walk_at "wr"
  intro p1 hp1
  rw [alV (bH hr1 hp1) aF (by rw [List.length_map];show ws.length+3≤_;omega)]
  intro f1 hf1
  rw [agG (ws:=ws) (x:=x)]
  have l2:Le G1 (aL (aL G1 p1 (.lst [.int x.a,.int x.p,.int x.l])) f1 (.lst ((fL ws x).map D.int))):=(Le.new hp1).trans (.new hf1)
  have h1:aL (aL G1 p1 (.lst [.int x.a,.int x.p,.int x.l])) f1 (.lst ((fL ws x).map D.int)) f1=some (.lst ((fL ws x).map D.int)):=aF
  generalize aL (aL G1 p1 (.lst [.int x.a,.int x.p,.int x.l])) f1 (.lst ((fL ws x).map D.int))=G2 at l2 h1 ⊢
  exists rO
  refine a3E (l2 _ _ (l1 _ _ hq)) h6 (by omega) fun G3 r2 l3 hr2=>?_
  walk_at "wr"
  intro p2 hp2
  rw [alV (bH hr2 hp2) aF (by rw [List.length_map];show ws.length+3≤_;omega)]
  intro f2 hf2
  rw [agG (ws:=ws) (x:=y)]
  have l4:Le G3 (aL (aL G3 p2 (.lst [.int y.a,.int y.p,.int y.l])) f2 (.lst ((fL ws y).map D.int))):=(Le.new hp2).trans (.new hf2)
  have h2:aL (aL G3 p2 (.lst [.int y.a,.int y.p,.int y.l])) f2 (.lst ((fL ws y).map D.int)) f2=some (.lst ((fL ws y).map D.int)):=aF
  generalize aL (aL G3 p2 (.lst [.int y.a,.int y.p,.int y.l])) f2 (.lst ((fL ws y).map D.int))=G4 at l4 h2 ⊢
  have h1:=l4 _ _ (l3 _ _ h1)
  have fin:=h G4 (((l1.trans l2).trans l3).trans l4)
  have azM:(fL ws x).length=(fL ws y).length:=by unfold fL;rw [List.length_append,List.length_append,a90 (x:=x) (y:=y)];rfl
  have lx9:(fL ws x).length≤9:=by unfold fL nM;rw [List.length_append,List.length_map];show ws.length+3≤9;omega
  generalize fL ws x=xs at *
  generalize fL ws y=ys at *
  exists rN
  rw [sO (aM h1),List.length_map]
  walk_at "wr"
  refine a04 (fun k ρ G'=>∃ r5,ρ=[some (pD x),some (pD y),some (.ref q),some (.ref f1),some (.ref f2),r5]∧xs.take k=ys.take k∧Le G4 G') ⟨_,rfl,rfl,.refl _⟩ (fun k ρ G' hk ⟨r5,e1,e2,l⟩=>?_) fun ρ G' ⟨r5,e1,e2,l⟩=>?_
  · subst e1
    obtain ⟨u,hu⟩:∃ u,xs[k]?=some u:=⟨_,List.getElem?_eq_getElem (by omega)⟩
    obtain ⟨v,hv⟩:∃ v,ys[k]?=some v:=⟨_,List.getElem?_eq_getElem (by omega)⟩
    exists pW
    rw [oK (aM (l _ _ h1)) (ints_get hu),oK (aM (l _ _ h2)) (ints_get hv)]
    walk_at "wr"
    by_cases c:u=v
    · rw [if_neg (by simp [c])]
      refine ⟨_,rfl,?_,l⟩
      rw [List.take_add_one,List.take_add_one,e2,hu,hv,c]
    · rw [if_pos (by simpa using c)]
      rw [oK (aM (l _ _ h1)) (ints_get hu),oK (aM (l _ _ h2)) (ints_get hv)]
      walk_at "wr"
      rw [← ar0 e2 hu hv c]
      exact ⟨_,l,fin⟩
  · subst e1
    exists rM
    rw [show ((xs.length:Int)).toNat=xs.length by omega,List.take_length,azM,List.take_length] at e2
    subst e2
    rw [rR] at fin
    exact ⟨_,l,fin⟩
theorem acF {f:Addr} {ds:List D} {z:D} {j:Nat} (h:G f=some (.lst ds)) (hj:j≤ds.length) (hl:ds.length < sizeLine) (k:R .non (aL G f (.lst (ds.take j++z :: ds.drop j)))):nJ (.ref f) [.int (j:Int),z] G R:=by
  unfold L2.nJ L2.a2M
  simp only [h]
  exact ⟨j,rfl,hj,hl,k⟩
theorem a94 {F:dH} {ex:aQ→aY} {f q:Addr} {x:Pc} {qs:List Pc} {ws:List Str} {r0 r4:Option D} (hf:G f=some (.lst (qs.map pD))) (hq:G q=some (.lst (ws.map D.str))) (h6:∀ w∈ws,aX w∈six) (hl:ws.length≤6) (ql:qs.length≤100) (t:Tn ws qs) (nx:∀ y∈qs,fL ws x≠fL ws y)
    (h:∀ G' r4 zs,HS G f (zs.map pD) G'→Tn ws zs→zs.Perm (qs++[x])→F.nx [r0,some (.ref q),some (.ref f),some (pD x),r4] G'):gK K A ex F [r0,some (.ref q),some (.ref f),some (pD x),r4] G:=by
  have b:=tK
  exists gK
  rw [sO (aM hf),List.length_map]
  simp only [lJ,alS,akE]
  refine ⟨fun m ρ G'=>m≤qs.length∧ρ=[r0,some (.ref q),some (.ref f),some (pD x),some (.int (m:Int))]∧(∀ i y,m≤i→qs[i]?=some y→HT.lexLt (fL ws x) (fL ws y)=true)∧Le G G',⟨qs.length,Nat.le_refl _,rfl,fun i y hi hy=>?_,.refl _⟩,fun m ρ G' hw=>?_⟩
  · rw [List.getElem?_eq_none hi] at hy
    cases hy
  obtain ⟨hm,rfl,hb,l⟩:=hw
  have go:(∀ y,0 < m→qs[m - 1]?=some y→HT.lexLt (fL ws x) (fL ws y)=false)→∀ G2,Le G G2→eU K A ex F [r0,some (.ref q),some (.ref f),some (pD x),some (.int (m:Int))] G2:=fun ha G2 l2=>by
    obtain ⟨t2,p2⟩:=aqZ t hm nx hb ha
    exists eU
    rw [oJ,aM (l2 _ _ hf)]
    refine ⟨rfl,acF (l2 _ _ hf) (by rw [List.length_map];exact hm) (by rw [List.length_map];omega) ?_⟩
    have e:(qs.map pD).take m++pD x :: (qs.map pD).drop m=(qs.take m++x :: qs.drop m).map pD:=by
      rw [List.map_append,List.map_cons,List.map_take,List.map_drop]
    rw [e]
    exact h _ _ _ ⟨aF,fun r u n e=>by rw [aP n];exact l2 _ _ e⟩ t2 p2
  walk_at "wr"
  by_cases c:0 < m
  · rw [if_pos (decide_eq_true (by omega))]
    obtain ⟨y,hy⟩:∃ y,qs[m - 1]?=some y:=⟨_,List.getElem?_eq_getElem (by omega)⟩
    have ey:uK (qs.map pD) ((m:Int) - 1)=some (pD y):=by
      rw [show (m:Int) - 1=((m - 1:Nat):Int) by omega,uD,List.getElem?_map,hy]
      rfl
    rw [oK (aM (l _ _ hf)) ey]
    walk_at "wr"
    refine akM (l _ _ hq) h6 hl fun G2 l2=>?_
    walk_at "wr"
    cases e:HT.lexLt (fL ws x) (fL ws y) with
    | true =>
      exists iW
      refine ⟨m - 1,by omega,by omega,by rw [show (m:Int) - 1=((m - 1:Nat):Int) by omega],fun i z hi hz=>?_,l.trans l2⟩
      by_cases ci:i=m - 1
      · rw [ci,hy] at hz
        cases hz
        exact e
      · exact hb i z (by omega) hz
    | false =>
      walk_at "wr"
      exact go (fun z _ hz=>by rw [hy] at hz;cases hz;exact e) G2 (l.trans l2)
  · rw [if_neg (by simp;omega)]
    walk_at "wr"
    exact go (fun z hz=>absurd hz c) G' l
theorem agH {p q:Addr} {ps:List Pc} {ws:List Str} (hp:G p=some (.lst (ps.map pD))) (hq:G q=some (.lst (ws.map D.str))) (h6:∀ w∈ws,aX w∈six) (hl:ws.length≤6) (pl:ps.length≤40) (un:Unl ps) (h:∀ G' r qs,Le G G'→G' r=some (.lst (qs.map pD))→qs.Perm ps→Tn ws qs→R (.ref r) G'):fO K A [.ref p,.ref q] G R EX:=by
  have b:=tK
  have nd:=a91 (ws:=ws) un
  refine ⟨rfl,?_⟩
  show mQ K A _ _ [some (.ref p),some (.ref q),none,none,none] G
  exists mQ
  intro f hf
  have np:p≠f:=mF hp hf
  have nq:q≠f:=mF hq hf
  exists pY
  rw [wV (aM (bH hp hf))]
  refine a05 (fun k ρ G'=>∃ r3 r4 qs,ρ=[some (.ref p),some (.ref q),some (.ref f),r3,r4]∧HS G f (qs.map pD) G'∧qs.Perm (ps.take k)∧Tn ws qs) ⟨_,_,[],rfl,HS.mk0,by simp,.nil⟩ (fun k ρ G' ⟨_,_,_,_,s,_⟩=>aM (s.2 _ _ np hp)) (fun k d ρ G' hk ⟨_,_,qs,e1,s,pm,t⟩=>?_) fun ρ G' ⟨_,_,qs,e1,s,pm,t⟩=>?_
  · subst e1
    rw [List.getElem?_map] at hk
    obtain ⟨x,hx,rfl⟩:=Option.map_eq_some_iff.mp hk
    obtain ⟨hlt,ex⟩:=List.getElem?_eq_some_iff.mp hx
    have et:ps.take (k+1)=ps.take k++[x]:=by rw [List.take_add_one,hx];rfl
    walk_at "wr"
    refine a94 s.1 (s.2 _ _ nq hq) h6 hl ?_ t (fun y hy=>?_) fun G2 r4 zs s2 t2 p2=>⟨_,_,zs,rfl,s.trans s2,?_,t2⟩
    · rw [pm.length_eq,List.length_take];omega
    · intro e
      have hy:=pm.mem_iff.mp hy
      obtain ⟨i,hi⟩:=List.mem_iff_getElem?.mp hy
      rw [List.getElem?_take] at hi
      split at hi
      · rename_i ik
        obtain ⟨hi1,hi2⟩:=List.getElem?_eq_some_iff.mp hi
        have key:=List.pairwise_iff_getElem.mp nd i k (by rw [List.length_map];exact hi1) (by rw [List.length_map];exact hlt) ik
        rw [List.getElem_map,List.getElem_map,hi2,ex] at key
        exact key e.symm
      · cases hi
    · rw [et]
      exact p2.trans (pm.append_right _)
  · subst e1
    rw [List.length_map,List.take_length] at pm
    exists pX
    exact dJ.here (h _ _ qs (s.leG hf) s.1 pm t)
abbrev nkP (x:Pc):NK:=([x.a,x.p],x.l)
def GK (G:Gp) (p:Addr) (ks:List NK):Prop:=G p=some (.nst ks)∨(G p=some (.iI true [])∧ks=[])
theorem ar3 {p:Addr} {ks:List NK} {k:NK} (h:GK G p ks) (z:R (.bl (!decide (k∈ks))) G):wR (.tup [.tup (k.1.map D.int),.int k.2]) (.ref p) G R:=by
  unfold L2.wR
  rcases h with h | ⟨h,rfl⟩
  · simp only [h]
    exact ⟨k,rfl,z⟩
  · simp only [h]
    exact ⟨k,rfl,by simpa using z⟩
theorem ar4 {F:dH} {ρ:aQ} {p:Addr} {ks:List NK} {k:NK} (h:GK G p ks) (n:k ∉ ks) (hl:ks.length < 1000) (z:F.nx ρ (aL G p (.nst (ks++[k])))):abY (.ref p) (.tup [.tup (k.1.map D.int),.int k.2]) F ρ G:=⟨k,ks,rfl,h,n,hl,z⟩
theorem ar5 {F:dH} {ρ:aQ} {to ti tv:bL}:a4M to ti tv F ρ G=tv ρ G fun v G1=>to ρ G1 fun x G2=>ti ρ G2 fun y G3=>abY x y F ρ G3:=rfl
def Dys (kvs:List (DK×D)):Prop:=∀ kv∈kvs,∃ d c:Int,kv.2 = .tup [.int d,.int c]
theorem aaZ {k:DK}:∀ {kvs:List (DK×D)} {v:D},Dys kvs→eF kvs k=some v→∃ d c:Int,v = .tup [.int d,.int c]
  | [],_,_,h=>by cases h
  | p :: r,v,hd,h=>by
    unfold eF at h
    split at h
    · cases h
      exact hd p (by simp)
    · exact aaZ (fun kv hkv=>hd kv (List.mem_cons_of_mem _ hkv)) h
theorem akO {kvs:List (DK×D)} {k:DK} {d c:Int} (h:Dys kvs) (n:eF kvs k=none):Dys (zQ kvs k (.tup [.int d,.int c]))∧(zQ kvs k (.tup [.int d,.int c])).length=kvs.length+1:=by
  unfold zQ
  rw [n]
  refine ⟨fun kv hkv=>?_,by simp⟩
  have hkv:kv∈kvs++[(k,D.tup [.int d,.int c])]:=hkv
  rcases List.mem_append.mp hkv with z | z
  · exact h kv z
  · rw [List.mem_singleton] at z
    subst z
    exact ⟨d,c,rfl⟩
structure Drw (G0:Gp) (f kn dy:Addr) (n m:Nat) (ps:List Pc) (G:Gp):Prop where
  hf:G f=some (.lst (ps.map pD))
  hk:GK G kn (ps.map nkP)
  hd:∃ kvs,G dy=some (.iI false kvs)∧Dys kvs∧kvs.length≤m
  un:Unl ps
  ln:ps.length≤n
  el:∀ r u,r≠f→r≠kn→r≠dy→G0 r=some u→G r=some u
theorem agI {ps:List Pc} {x:Pc} (h:Unl ps) (n:nkP x ∉ ps.map nkP):Unl (ps++[x]):=by
  unfold Unl at h ⊢
  rw [List.map_append,List.nodup_append]
  refine ⟨h,by simp,fun y hy z hz e=>?_⟩
  rw [List.map_cons,List.map_nil,List.mem_singleton] at hz
  subst hz
  subst e
  obtain ⟨w,hw,e⟩:=List.mem_map.mp hy
  refine n (List.mem_map.mpr ⟨w,hw,?_⟩)
  unfold ky3 at e
  simp only [List.cons.injEq,and_true] at e
  show (([w.a,w.p],w.l):NK)=([x.a,x.p],x.l)
  rw [e.1,e.2.1,e.2.2]
section
variable {F:dH} {ex:aQ→aY} {G0:Gp} {f kn dy:Addr} {n m:Nat} {ps:List Pc} {r0 r1 r2 r6:Option D}
abbrev vX (r0 r1 r2:Option D) (f kn dy:Addr) (r6 r7 r8 r9 r10 r11 r12:Option D):aQ:=[r0,r1,r2,some (.ref f),some (.ref kn),some (.ref dy),r6,r7,r8,r9,r10,r11,r12]
theorem aw8 {r9:Option D} {a p l g d c:Int} (s:Drw G0 f kn dy n m ps G) (fk:f≠kn) (fd:f≠dy) (kd:kn≠dy) (hn:n≤100) (h:∀ G' qs,Drw G0 f kn dy (n+1) m qs G'→F.nx (vX r0 r1 r2 f kn dy r6 (some (.tup [.int a,.int p])) (some (.int l)) r9 (some (.int d)) (some (.int c)) (some (.int g))) G') :
    cH K A ex F (vX r0 r1 r2 f kn dy r6 (some (.tup [.int a,.int p])) (some (.int l)) r9 (some (.int d)) (some (.int c)) (some (.int g))) G:=by
  have b:=tK
  have ln:=s.ln
  exists cH
  refine ar3 (k:=nkP ⟨a,p,l,g,d,c⟩) s.hk ?_
  walk_at "wr"
  by_cases cz:nkP ⟨a,p,l,g,d,c⟩∈ps.map nkP
  · rw [if_neg (by simp [cz])]
    exact h _ ps ⟨s.hf,s.hk,s.hd,s.un,by omega,s.el⟩
  · rw [if_pos (by simp [cz])]
    exists ar5
    refine ar4 (k:=nkP ⟨a,p,l,g,d,c⟩) s.hk cz (by rw [List.length_map];omega) ?_
    exists fK
    have hf:aL G kn (.nst (ps.map nkP++[nkP ⟨a,p,l,g,d,c⟩])) f=some (.lst (ps.map pD)):=by rw [aP fk];exact s.hf
    rw [oJ,aM hf]
    refine ⟨rfl,?_⟩
    rw [vK hf (by rw [List.length_map];omega)]
    obtain ⟨kvs,e1,e2,e3⟩:=s.hd
    refine h _ (ps++[⟨a,p,l,g,d,c⟩]) ⟨?_,.inl ?_,⟨kvs,?_,e2,e3⟩,agI s.un cz,by rw [List.length_append];show ps.length+1≤_;omega,fun r u n1 n2 n3 e=>?_⟩
    · rw [aF,List.map_append]
      rfl
    · rw [aP (Ne.symm fk),aF,List.map_append]
      rfl
    · rw [aP (Ne.symm fd),aP (Ne.symm kd)]
      exact e1
    · rw [aP n1,aP n2]
      exact s.el r u n1 n2 n3 e
theorem am0 {a p l d c o:Int} {r12:Option D} (s:Drw G0 f kn dy n m ps G) (fk:f≠kn) (fd:f≠dy) (kd:kn≠dy) (hn:n≤100) (h:∀ G' qs r7 r8 r9 r10 r11 r12,Drw G0 f kn dy (n+1) m qs G'→F.nx (vX r0 r1 r2 f kn dy r6 r7 r8 r9 r10 r11 r12) G') :
    dD K A ex F (vX r0 r1 r2 f kn dy r6 (some (.tup [.int a,.int p])) (some (.int l)) (some (.int o)) (some (.int d)) (some (.int c)) r12) G:=by
  have fin:∀ g:Int,cH K A ex F (vX r0 r1 r2 f kn dy r6 (some (.tup [.int a,.int p])) (some (.int l)) (some (.int o)) (some (.int d)) (some (.int c)) (some (.int g))) G:=fun g=>aw8 s fk fd kd hn fun G' qs s'=>h G' qs _ _ _ _ _ _ s'
  exists dD,iR
  split
  · exact fin _
  · exact fin _
theorem azN {a p l d c o:Int} {r12:Option D} (s:Drw G0 f kn dy n m ps G) (fk:f≠kn) (fd:f≠dy) (kd:kn≠dy) (hn:n≤100) (hm:m≤100) (h:∀ G' qs r7 r8 r9 r10 r11 r12,Drw G0 f kn dy (n+1) (m+1) qs G'→F.nx (vX r0 r1 r2 f kn dy r6 r7 r8 r9 r10 r11 r12) G') :
    eG K A ex F (vX r0 r1 r2 f kn dy r6 (some (.tup [.int a,.int p])) (some (.int l)) (some (.int o)) (some (.int d)) (some (.int c)) r12) G:=by
  have b:=tK
  obtain ⟨kvs,e1,e2,e3⟩:=s.hd
  exists eG,a6Z e1
  unfold L2.a6P
  dsimp only
  rw [a70 e1 (k := .inl (.inl l)) rfl rfl]
  refine ⟨rfl,by omega,?_⟩
  cases ev:eF kvs (.inl (.inl l)) with
  | some v =>
    obtain ⟨d',c',rfl⟩:=aaZ e2 ev
    dsimp only
    rw [a8Q rfl]
    walk_at "wr"
    exact am0 ⟨s.hf,s.hk,⟨kvs,e1,e2,by omega⟩,s.un,s.ln,s.el⟩ fk fd kd hn h
  | none =>
    obtain ⟨p1,p2⟩:=akO (d:=d) (c:=c) e2 ev
    dsimp only
    rw [a8Q rfl]
    walk_at "wr"
    refine am0 ⟨?_,?_,⟨_,aF,p1,by omega⟩,s.un,s.ln,fun r u n1 n2 n3 e=>?_⟩ fk fd kd hn h
    · rw [aP fd];exact s.hf
    · exact s.hk.elim (fun z => .inl (by rw [aP kd];exact z)) fun z => .inr ⟨by rw [aP kd];exact z.1,z.2⟩
    · rw [aP n3];exact s.el r u n1 n2 n3 e
theorem Drw.new {G':Gp} {q:Addr} {o:GO} (s:Drw G0 f kn dy n m ps G) (hq:G q=none):Drw G0 f kn dy n m ps (aL G q o):=by
  obtain ⟨kvs,e1,e2,e3⟩:=s.hd
  exact ⟨bH s.hf hq,s.hk.elim (fun z => .inl (bH z hq)) (fun z => .inr ⟨bH z.1 hq,z.2⟩),⟨kvs,bH e1 hq,e2,e3⟩,s.un,s.ln,fun r u n1 n2 n3 e=>bH (s.el r u n1 n2 n3 e) hq⟩
theorem aw9 {a p l d o:Int} {r11 r12:Option D} (d0:0≤d) (s:Drw G0 f kn dy n m ps G) (fk:f≠kn) (fd:f≠dy) (kd:kn≠dy) (hn:n≤100) (hm:m≤100) (h:∀ G' qs r7 r8 r9 r10 r11 r12,Drw G0 f kn dy (n+1) (m+1) qs G'→F.nx (vX r0 r1 r2 f kn dy r6 r7 r8 r9 r10 r11 r12) G') :
    eN K A ex F (vX r0 r1 r2 f kn dy r6 (some (.tup [.int a,.int p])) (some (.int l)) (some (.int o)) (some (.int d)) r11 r12) G:=by
  have nz:d+1≠0:=by omega
  exists eN
  intro q hq
  obtain ⟨v,ev⟩:∃ v:Int,uK [D.int (o / 5 % 3),.int (o / 900000)] (if (o / 15 % 6 == 1)=true then 1 else 0)=some (.int v):=by
    cases (o / 15 % 6 == 1) with
    | true=>exact ⟨_,rfl⟩
    | false=>exact ⟨_,rfl⟩
  rw [oK kJ ev]
  walk_at "wr"
  exact azN (s.new (G':=G) hq) fk fd kd hn hm h
theorem awA {a p l:Int} {k:Nat} {b0:Addr} {ns:List Int} {r9 r10 r11 r12:Option D} (hG:G b0=some (.rol (ns.map D.int))) (hk:k < 100) (s:Drw G0 f kn dy n m ps G) (fk:f≠kn) (fd:f≠dy) (kd:kn≠dy) (hn:n≤100) (hm:m≤100) (h:∀ G' qs r7 r8 r9 r10 r11 r12,Drw G0 f kn dy (n+1) (m+1) qs G'→F.nx (vX (some (.ref b0)) r1 r2 f kn dy (some (.int (k:Int))) r7 r8 r9 r10 r11 r12) G') :
    eO K A ex F (vX (some (.ref b0)) r1 r2 f kn dy (some (.int (k:Int))) (some (.tup [.int a,.int p])) (some (.int l)) r9 r10 r11 r12) G:=by
  exists eO
  rw [show (9:Int)+2 * (k:Int)=((9+2 * k:Nat):Int) by omega]
  refine a0G hG (by omega) ?_
  generalize cellAt ns (9+2 * k)=o
  exists lD,lC
  split
  · exact aw9 (Int.emod_nonneg _ (by decide)) s fk fd kd hn hm h
  · exact aw9 (Int.emod_nonneg _ (by decide)) s fk fd kd hn hm h
theorem akP {k:Nat} {b0:Addr} {ns:List Int} {r1 r7 r8 r9 r10 r11 r12:Option D} (hG:G b0=some (.rol (ns.map D.int))) (hk:k < 100) (s:Drw G0 f kn dy n m ps G) (fk:f≠kn) (fd:f≠dy) (kd:kn≠dy) (hn:n≤100) (hm:m≤100) (h:∀ G' qs r1 r7 r8 r9 r10 r11 r12,Drw G0 f kn dy (n+1) (m+1) qs G'→F.nx (vX (some (.ref b0)) r1 r2 f kn dy (some (.int (k:Int))) r7 r8 r9 r10 r11 r12) G') :
    gH K A ex F (vX (some (.ref b0)) r1 r2 f kn dy (some (.int (k:Int))) r7 r8 r9 r10 r11 r12) G:=by
  exists gH
  rw [show (8:Int)+2 * (k:Int)=((8+2 * k:Nat):Int) by omega]
  refine a0G hG (by omega) ?_
  generalize cellAt ns (8+2 * k)=o
  exists lG,lF,lE
  split
  · exists gB
    exact awA hG hk s fk fd kd hn hm fun G' qs r7 r8 r9 r10 r11 r12=>h G' qs _ r7 r8 r9 r10 r11 r12
  · exact awA hG hk s fk fd kd hn hm fun G' qs r7 r8 r9 r10 r11 r12=>h G' qs _ r7 r8 r9 r10 r11 r12
end
theorem xP {F:dH} {ex:aQ→aY} {b0:Addr} {ns:List Int} {r1:Option D} {mn:Int} (hG:G b0=some (.rol (ns.map D.int))) (m0:0≤mn) (m1:mn≤40) (h:∀ G' p ps,Le G G'→G' p=some (.lst (ps.map pD))→ps.length≤40→Unl ps→F.rt (.ref p) G') :
    iK K A ex F [some (.ref b0),r1,some (.int mn),none,none,none,none,none,none,none,none,none,none] G:=by
  have b:=tK
  exists iK
  intro f hf
  exists pQ
  intro kn hkn
  exists pP
  intro dy hdy
  exists pO
  have fk:f≠kn:=fun z=>by subst z;rw [aF] at hkn;cases hkn
  have hk0:G kn=none:=by rw [aP (Ne.symm fk)] at hkn;exact hkn
  have kd:kn≠dy:=fun z=>by subst z;rw [aF] at hdy;cases hdy
  have fd:f≠dy:=fun z=>by subst z;rw [aP fk,aF] at hdy;cases hdy
  have hd0:G dy=none:=by rw [aP (Ne.symm kd),aP (Ne.symm fd)] at hdy;exact hdy
  have el:∀ r u,G r=some u→r≠f∧r≠kn∧r≠dy:=fun r u e=>⟨mF e hf,mF e hk0,mF e hd0⟩
  refine a04 (fun k ρ G'=>∃ r1 r6 r7 r8 r9 r10 r11 r12 ps,ρ=vX (some (.ref b0)) r1 (some (.int mn)) f kn dy r6 r7 r8 r9 r10 r11 r12∧Drw G f kn dy k k ps G') ⟨_,_,_,_,_,_,_,_,[],rfl,?_⟩ (fun k ρ G' hk ⟨_,_,_,_,_,_,_,_,ps,e1,s⟩=>?_) fun ρ G' ⟨_,_,_,_,_,_,_,_,ps,e1,s⟩=>?_
  · refine ⟨?_,.inr ⟨?_,rfl⟩,⟨[],aF,(fun kv h=>nomatch h),Nat.le_refl _⟩,List.nodup_nil,Nat.le_refl _,fun r u n1 n2 n3 e=>?_⟩
    · rw [aP fd,aP fk];exact aF
    · rw [aP kd];exact aF
    · rw [aP n3,aP n2,aP n1];exact e
  · subst e1
    walk_at "wr"
    refine akP (s.el _ _ (el _ _ hG).1 (el _ _ hG).2.1 (el _ _ hG).2.2 hG) (by omega) s fk fd kd (by omega) (by omega) fun G2 qs r1 r7 r8 r9 r10 r11 r12 s2=>⟨_,_,_,_,_,_,_,_,qs,rfl,s2⟩
  · subst e1
    have ln:=s.ln
    exists pN
    exact h G' f ps (fun r u e=>s.el r u (el r u e).1 (el r u e).2.1 (el r u e).2.2 e) s.hf (by omega) s.un
theorem agJ {b0:Addr} {ns:List Int} (hG:G b0=some (.rol (ns.map D.int))) (h:∀ G' p ps,Le G G'→G' p=some (.lst (ps.map pD))→ps.length≤40→Unl ps→R (.ref p) G'):fM K A [.ref b0] G R EX:=by
  refine ⟨rfl,?_⟩
  show mL K A _ _ [some (.ref b0),none,none,none,none,none,none,none,none,none,none,none,none] G
  exists mL
  refine a0G (k:=0) hG (by decide) ?_
  generalize cellAt ns 0=c
  exists pU,pR
  have b1:=Int.emod_nonneg c (show (9:Int)≠0 by decide)
  have b2:=Int.emod_lt_of_pos c (show (0:Int) < 9 by decide)
  have b3:=Int.emod_nonneg (c / 72) (show (41:Int)≠0 by decide)
  have b4:=Int.emod_lt_of_pos (c / 72) (show (0:Int) < 41 by decide)
  split
  · exact xP hG (by omega) (by omega) fun G' p ps l e1 e2 e3=>dJ.here (h G' p ps l e1 e2 e3)
  · exact xP hG (by omega) (by omega) fun G' p ps l e1 e2 e3=>dJ.here (h G' p ps l e1 e2 e3)
theorem akQ {z:Str} {q:Addr} {ys:List Str} (h:aZ G q=some (ys.map D.str)) (hl:(ys.map (·.length)).sum+ys.length * z.length≤16777216) (k:R (.str (Txt.join z ys)) G):u5 (.str z) [.ref q] G R:=by
  have e:lV (ys.map D.str)=some ys:=by
    clear h hl k
    induction ys with
    | nil=>rfl
    | cons y ys ih=>show (lV (ys.map D.str)).map (y :: ·)=_;rw [ih];rfl
  show (match (aZ G q).bind lV with | some ys=>_ | none=>_)
  rw [h]
  show (match lV (ys.map D.str) with | some ys=>_ | none=>_)
  rw [e]
  exact ⟨hl,k⟩
theorem acG {z y:Str} {ys:List Str}:Txt.join z (y :: ys)=ys.foldl (fun t q=>t++z++q) y:=by
  have key:∀ (ys:List Str) (y:Str),(⟨ys.foldl (fun acc p=>acc++z.cps++p.cps) y.cps⟩:Str)=ys.foldl (fun t q=>t++z++q) y:=by
    intro ys
    induction ys with
    | nil=>intro y;rfl
    | cons q ys ih=>intro y;exact ih (y++z++q)
  exact key ys y
theorem a7B {z:Str}:∀ (ys:List Str) (t:Str),(∀ y∈ys,y.length≤60)→(ys.foldl (fun t q=>t++z++q) t).length≤t.length+ys.length * (z.length+60)
  | [],t,_=>by simp
  | y :: r,t,h=>by
    have a:=a7B (z:=z) r (t++z++y) fun q hq=>h q (by simp [hq])
    have b:=h y (by simp)
    rw [List.foldl_cons,List.length_cons,Nat.add_mul,Nat.one_mul]
    rw [len_app,len_app] at a
    omega
theorem agK {z:Str} {ys:List Str} (h:ys.length≤20) (h2:∀ y∈ys,y.length≤60) (hz:z.length≤2):(Txt.join z ys).length≤3000:=by
  cases ys with
  | nil=>exact Nat.zero_le _
  | cons y r =>
    rw [acG]
    have a:=a7B (z:=z) r y fun q hq=>h2 q (by simp [hq])
    have b:=h2 y (by simp)
    have c:r.length * (z.length+60)≤20 * 62:=Nat.mul_le_mul (by rw [List.length_cons] at h;omega) (by omega)
    omega
theorem ab0:∀ ys:List Str,(∀ y∈ys,y.length≤60)→(ys.map (·.length)).sum≤ys.length * 60
  | [],_=>by simp
  | y :: r,h=>by
    have a:=ab0 r fun q hq=>h q (by simp [hq])
    have b:=h y (by simp)
    rw [List.map_cons,List.sum_cons,List.length_cons]
    omega
theorem awB {q:Addr} {ys:List Str} (h:G q=some (.lst (ys.map D.str))) (l6:ys.length≤6) (f:∀ y∈ys,y.length≤7) (k:(Txt.join " " ys).length≤3000→R (.str (Txt.join " " ys)) G):u5 (.str " ") [.ref q] G R:=by
  have a:=ab0 ys fun y hy=>by have:=f y hy;omega
  have e:(Str.ofString " ").length=1:=by decide
  refine akQ (aM h) (by rw [e];omega) (k (agK (by omega) (fun y hy=>by have:=f y hy;omega) (by rw [e];decide)))
theorem tY:∀ ps:List Pc,(ps.map pD).all (aO 20)=true
  | []=>rfl
  | x :: r=>by rw [List.map_cons,List.all_cons,tY r];rfl
theorem ab1 (ps:List Pc):j4 (ps.map pD) (ps.map pD)=true:=wJ (n:=20) fun x hx=>List.all_eq_true.mp (tY ps) x hx
theorem ar6 {p:Addr} {xs:List D} {lo hi:Option Int} (h:aZ G p=some xs):adZ (.ref p) lo hi G R=∀ q,G q=none→R (.ref q) (aL G q (.lst (cutD xs lo hi))):=by
  unfold L2.adZ
  simp only [h]
theorem agL {xs:List D} {z:D}:cutD (xs++[z]) none (some (-1))=xs:=by
  unfold L2.cutD
  have e:HT.fZ (xs++[z]).length (xs++[z]).length (some (-1))=xs.length:=by
    show (if (-1:Int) < 0 then ((-1:Int)+((xs++[z]).length:Int)).toNat else min (-1:Int).toNat (xs++[z]).length)=xs.length
    rw [if_pos (by decide),List.length_append]
    show ((-1:Int)+((xs.length+1:Nat):Int)).toNat=xs.length
    omega
  rw [e]
  show List.take (xs.length - 0) (List.drop 0 (xs++[z]))=xs
  simp
theorem main (T:Txt K mg A) (a:Addr) (ns:List Int) (hl:ns.length≤63) (G:Gp) (hG:G a=some (.rol (ns.map D.int))) (hT:G A.eY=some aw3) (hT2:G A.eZ=some aw7):a8V K A [.ref a] G (fun d _=>d = .bl true) (fun _ _=>False):=by
  have b:=tK
  refine ⟨rfl,?_⟩
  show ag3 K A _ _ [some (.ref a),none,none,none,none] G
  exists ag3
  refine agJ hG fun G1 p ps l1 hp pl un=>?_
  exists aaQ
  refine akL (l1 _ _ hG) fun G2 q ws l2 hq w0 wok h6 wl=>?_
  have hp2:=l2 _ _ hp
  exists aaP
  rw [afZ (aM hp2)]
  intro h hh
  have l3:Le G2 (aL G2 h (.lst (ps.map pD))) := .new hh
  have hh3:aL G2 h (.lst (ps.map pD)) h=some (.lst (ps.map pD)):=aF
  generalize aL G2 h (.lst (ps.map pD))=G3 at l3 hh3 ⊢
  have l13:=(l1.trans l2).trans l3
  have fit:∀ w∈ws,w.length≤7:=fun w hw=>a0F (h6 w hw)
  have jl:∀ {G4:Gp} {R:dG},Le G3 G4→(∀ G5 q5 f,Le G4 G5→G5 q5=some (.lst (ws.map rP))→G5 f=some (.clo bC (.ref q5))→R (.ref f) G5)→∀ {EX:aY},u5 (.str " ") [.ref q] G4 fun d G5=>gG K A [d] G5 R EX:=fun {G4 R} l4 z {EX}=>by
    refine awB (l4 _ _ (l3 _ _ hq)) wl fit fun aDG=>?_
    refine acC (l4 _ _ (l13 _ _ hT)) (by omega) (fun _ G5 q5 f l5 e1 e2=>?_) fun nk=>absurd ?_ nk
    · rw [a0I w0 h6] at e1
      exact z G5 q5 f l5 e1 e2
    · rw [a0I w0 h6]
      exact wok
  exists aaO
  refine jl (.refl _) fun G4 q4 f l4 hq4 hf4=>?_
  refine a3F (aM (l4 _ _ hh3)) hf4 hq4 (l4 _ _ (l13 _ _ hT2)) h6 (by omega) pl un fun G5 r qs l5 r0 hr pm tn=>?_
  exists aaN
  have hh5:=l5 _ _ (l4 _ _ hh3)
  have hp5:=l5 _ _ (l4 _ _ (l3 _ _ hp2))
  have hq5:=l5 _ _ (l4 _ _ (l3 _ _ hq))
  rw [a02 (aM hh5) (aM hp5) (tY ps) (tY ps),ab1]
  walk_at "wr"
  rw [aqI (T := "list") (by unfold tyD;simp only [hr]) (by decide)]
  walk_at "wr"
  refine agH hp5 hq5 h6 wl pl un fun G6 r6 zs l6 hr6 pm6 tn6=>?_
  have ez:zs=qs:=agD pm6 pm tn6 tn
  subst ez
  rw [a02 (aM (l6 _ _ hr)) (aM hr6) (tY zs) (tY zs),ab1]
  exists aaM
  rw [oJ,aM (l6 _ _ hr)]
  refine ⟨rfl,?_⟩
  rw [vK (l6 _ _ hr) (by rw [List.length_map,pm.length_eq];omega)]
  have l47:Le G4 (aL G6 r (.lst (zs.map pD++[.non]))):=fun x u e=>by
    rw [aP (fun z=>by subst z;rw [r0] at e;cases e)]
    exact l6 _ _ (l5 _ _ e)
  have hr7:aL G6 r (.lst (zs.map pD++[.non])) r=some (.lst (zs.map pD++[.non])):=aF
  generalize aL G6 r (.lst (zs.map pD++[.non]))=G7 at l47 hr7 ⊢
  have l37:=l4.trans l47
  exists aaL
  rw [a01 (aM (l37 _ _ hh3)) (aM (l37 _ _ (l3 _ _ hp2))) (tY ps) (tY ps),ab1]
  walk_at "wr"
  refine jl l37 fun G8 q8 f8 l8 hq8 hf8=>?_
  refine a3F (aM (l8 _ _ (l37 _ _ hh3))) hf8 hq8 (l8 _ _ (l37 _ _ (l13 _ _ hT2))) h6 (by omega) pl un fun G9 r9 ys l9 _ hr9 pm9 tn9=>?_
  have ey:ys=zs:=agD pm9 pm6 tn9 tn6
  subst ey
  walk_at "wr"
  rw [ar6 (aM (l9 _ _ (l8 _ _ hr7))),agL]
  intro qq hqq
  rw [a01 (aM (bH hr9 hqq)) kJ (tY ys) (tY ys),ab1]
  exact dJ.here rfl
end
end Law
namespace Law
open PySem PySem.Spec PyProof.Rows L2 L4 PySem.W
section
variable {P:Program} {w:World} {K:Fg} {mg:Str→Option Value} {base:Heap} {A:bU}
local macro_rules | `(tactic| walk_at "sc")=>`(tactic| exact ⟨rfl,rfl,rfl,by decide +kernel,rfl,by decide +kernel,by decide +kernel⟩)
theorem dc {qt:Bool} {x qual:Str} {st:Stmt} {f:Addr} {fd:FuncData} {ps:List Str} {k:Nat} {S:SI} {c:CB} {tb:aY→bK} (F:uU K x qual st f fd) (hS:bD S.N ps (aC st)) (hc:S.calm=!qt) (hv:vH S (aC st)=true) (hk:kB S 0 c (bI st)=true) (he:(fun EX=>mB S.gl K (fun _=>EX) c)=tb) (hg:∀ (j:Nat) (y:Str) (g:GT),S.gl[j]?=some (y,g)→GTs P w K mg base k y g) (hn:S.need=false:=by rfl):bY qt P w K mg base (iJ P w) (k+1) f fd ps (cO K (spD S.N.length ps.length tb)):=by
  rw [← he]
  exact afI F hS hc hv hk hg hn
theorem dcT {qt:Bool} {x qual:Str} {st:Stmt} {f:Addr} {fd:FuncData} {ps:List Str} {k:Nat} {S:SI} {c:CB} {tb:aY→bK} (F:uU K x qual st f fd) (hS:bD S.N ps (aC st)) (hc:S.calm=!qt) (hv:vH S (aC st)=true) (hk:kB S 0 c (bI st)=true) (he:(fun EX=>mB S.gl K (fun _=>EX) c)=tb) (hg:∀ (j:Nat) (y:Str) (g:GT),S.gl[j]?=some (y,g)→GTs P w K mg base k y g) (hnc:(aC st).names.all (fun y=>y.2 != .cell)=true:=by decide +kernel) (hne:ps≠[]:=by decide):bY qt P w K mg base (iJ P w) (k+1) f fd ps (cO K (spD S.N.length ps.length tb)):=by
  rw [← he]
  exact ac3 F hS hnc hne hc hv hk hg
theorem a1N (T:Txt K mg A) (hB:Bse base mg A):bY false P w K mg base (iJ P w) 1 A.oM A.fC ["piece"] (cO K (gP K A)) :=
  dc (S:=a4U K A) (c:=a4T) T.fP (show bD ["piece"] ["piece"] _ from by walk_at "sc") rfl (by kernel_rfl) (by kernel_rfl) (by kernel_rfl) gln
theorem ab2 (T:Txt K mg A) (hB:Bse base mg A):bY false P w K mg base (iJ P w) 1 A.a8R A.a07 ["word"] (cO K (sS K A)) :=
  dc (S:=aqT K A) (c:=aqS) T.wZ (show bD ["word"] ["word"] _ from by walk_at "sc") rfl (by kernel_rfl) (by kernel_rfl) (by kernel_rfl) gln
theorem a7C (T:Txt K mg A) (hB:Bse base mg A):bY false P w K mg base (iJ P w) 2 A.uE A.kW ["text"] (cO K (lX K A)) :=
  dc (S:=a8U K A) (c:=a8T) T.lK (show bD ["text", "words", "names", "name"] ["text"] _ from by walk_at "sc") rfl (by kernel_rfl) (by kernel_rfl) (by kernel_rfl) (uL ⟨T.alY,aoK⟩ (uL ⟨T.oZ,tM⟩ (uL ⟨T.a73,T.nZ,T.jJ,T.jK,T.jL⟩ (uL ⟨_,_,_,(ab2 T hB).mono (by decide),T.a0D,T.wZ.kp,T.a0C⟩ (uL (gcT T.oY) gln)))))
theorem a1O (T:Txt K mg A) (hB:Bse base mg A):qU false P w K mg base 2 bC (dO K A):=by
  have h:=afK (P:=P) (w:=w) (mg:=mg) (base:=base) (k:=1) (c:=bC) (ps:=["piece"]) (S:=vV K A) (cb:=vU) (show ScX ["parts", "piece", "numbers"] ["piece"] "parts" bC.scope from ⟨rfl,rfl,rfl,by decide +kernel,rfl,by decide +kernel,a3A (by decide +kernel),rfl⟩) (by decide +kernel) (fun _ _ _ _ _ us hl=>match us,hl with | [_],_=>rfl) rfl (by kernel_rfl) (by kernel_rfl) (uL ⟨_,_,_,(a1N T hB).mono (by decide),T.j8,T.fP.kp,T.j7⟩ (uL ⟨T.aaR,ae1⟩ gln))
  have e:(fun EX=>mB (vV K A).gl K (fun _=>EX) vU)=fun EX=>j6 K A (fun _=>EX):=by kernel_rfl
  rw [e] at h
  exact h
theorem a95 (T:Txt K mg A) (hB:Bse base mg A):bY false P w K mg base (iJ P w) 3 A.wX A.jE ["text"] (cO K (gG K A)):=by
  have h:=ajX (qt:=false) (P:=P) (w:=w) (mg:=mg) (base:=base) (k:=2) (S:=a3D K A) (cb:=a3C) (pre:=(bI cL).take 1) (c:=bC) (pos:=a6V (inBody cL 1)) (pg:=aq0 (inBody cL 2)) (pr:=avH (inBody cL 2)) (ig:=2) (ix:=1) T.jG (show bD ["text", "parts", "tuple_of"] ["text"] _ from by walk_at "sc") (by kernel_rfl) (by kernel_rfl) (by kernel_rfl) (fun _=>rfl) (by kernel_rfl) T.nP hB.1.2 hB.1.1 (by kernel_rfl) (by kernel_rfl) (by kernel_rfl) (by kernel_rfl) (by kernel_rfl) (by decide) (by decide +kernel) (by decide +kernel) rfl (by kernel_rfl) (by kernel_rfl) (uL ⟨_,_,_,(a7C T hB).mono (by decide),T.oX,T.lK.kp,T.oW⟩ (uL (gcT T.oY) (uL ⟨_,_,_,(ab2 T hB).mono (by decide),T.a0D,T.wZ.kp,T.a0C⟩ gln)))
  have e:(fun EX=>mB (a3D K A).gl K (fun _=>EX) a3C)=fun EX=>sU K A (fun _=>EX):=by kernel_rfl
  rw [e] at h
  exact h
theorem a0K (T:Txt K mg A) (hB:Bse base mg A):tR false P w K mg base 3 bO (fJ K A):=by
  have h:=afL (P:=P) (w:=w) (mg:=mg) (base:=base) (k:=2) (c:=bO) (ps:=["piece"]) (S:=tX K A) (ce:=tW) (show ScX ["rule", "piece"] ["piece"] "rule" bO.scope from ⟨rfl,rfl,rfl,by decide +kernel,rfl,by decide +kernel,a3A (by decide +kernel),rfl⟩) (by decide +kernel) (fun _ _ _ _ us hl=>match us,hl with | [_],_=>rfl) rfl (by kernel_rfl) (by kernel_rfl) (uL (qU.mono (a1O T hB) (by decide)) gln)
  have e:(mE (tX K A).gl K (fun _=>fB fun _ _=>False) tW)=gQ K A (fun _=>fB fun _ _=>False):=by kernel_rfl
  rw [e] at h
  exact h
theorem a96 (T:Txt K mg A) (hB:Bse base mg A):bY false P w K mg base (iJ P w) 6 A.wY A.jF ["pieces", "rule"] (cO K (lA K A)) :=
  ac2 (N:=["pieces", "rule"]) (ip:=0) (ix:=1) (c:=bO) T.jH (by walk_at "sc") (by kernel_rfl) (fun _=>rfl) (by kernel_rfl) T.nQ hB.2.2 hB.2.1 (by kernel_rfl) rfl (by kernel_rfl) rfl (by kernel_rfl) (by decide) (by decide) (by kernel_rfl) T.a75 (a0K T hB)
theorem pZ (T:Txt K mg A) (hB:Bse base mg A):bY false P w K mg base (iJ P w) 1 A.kY A.cW ["_law_script", "_law_k"] (cO K (bJ K A)) :=
  dc (S:=a09 K A) (c:=a08) T.cM (show bD ["_law_script", "_law_k", "_law_mixed"] ["_law_script", "_law_k"] _ from by walk_at "sc") rfl (by kernel_rfl) (by kernel_rfl) (by kernel_rfl) (uL ⟨T.a74,a4D⟩ gln)
theorem a0L (T:Txt K mg A) (hB:Bse base mg A):bY false P w K mg base (iJ P w) 2 A.mH A.dM ["_law_script"] (cO K (fM K A)) :=
  dc (S:=a1K K A) (c:=a1J) T.dR (show bD ["_law_script", "_law_cell", "_law_many", "_law_found", "_law_known", "_law_days", "_law_k", "_law_spot", "_law_lot", "_law_other", "_law_due", "_law_came", "_law_grains"] ["_law_script"] _ from by walk_at "sc") rfl (by kernel_rfl) (by kernel_rfl) (by kernel_rfl) (uL ⟨_,_,_,(pZ T hB).mono (by decide),T.d7,T.cM.kp,T.cZ⟩ (uL ⟨T.yL,a00⟩ (uL ⟨T.alX,aoJ⟩ gln)))
theorem a1P (T:Txt K mg A) (hB:Bse base mg A):bY false P w K mg base (iJ P w) 2 A.oN A.fD ["_law_script"] (cO K (gR K A)) :=
  dc (S:=a4W K A) (c:=a4V) T.fQ (show bD ["_law_script", "_law_left", "_law_cell", "_law_words_here", "_law_k"] ["_law_script"] _ from by walk_at "sc") rfl (by kernel_rfl) (by kernel_rfl) (by kernel_rfl) (uL ⟨_,_,_,(pZ T hB).mono (by decide),T.d7,T.cM.kp,T.cZ⟩ (uL ⟨T.yL,a00⟩ (uL ⟨T.a74,a4D⟩ gln)))
theorem xV (T:Txt K mg A) (hB:Bse base mg A):bY false P w K mg base (iJ P w) 1 A.kZ A.cX ["_law_piece", "_law_words_here"] (cO K (cR K A)) :=
  dcT (S:=a0B K A) (c:=a0A) T.d8 (show bD ["_law_piece", "_law_words_here", "_law_found", "_law_word", "_law_name", "_law_told", "_law_number"] ["_law_piece", "_law_words_here"] _ from by walk_at "sc") rfl (by kernel_rfl) (by kernel_rfl) (by kernel_rfl) gln
theorem a1Q (T:Txt K mg A) (hB:Bse base mg A):bY false P w K mg base (iJ P w) 2 A.oO A.fG ["_law_one", "_law_other", "_law_words_here"] (cO K (gU K A)) :=
  dc (S:=a4Y K A) (c:=a4X) T.fW (show bD ["_law_one", "_law_other", "_law_words_here", "_law_first", "_law_second", "_law_k"] ["_law_one", "_law_other", "_law_words_here"] _ from by walk_at "sc") rfl (by kernel_rfl) (by kernel_rfl) (by kernel_rfl) (uL ⟨_,_,_,(xV T hB).mono (by decide),T.fV,T.d8.kp,T.fU⟩ (uL ⟨T.yL,a00⟩ (uL ⟨T.a74,a4D⟩ gln)))
theorem a0M (T:Txt K mg A) (hB:Bse base mg A):bY false P w K mg base (iJ P w) 3 A.mJ A.dN ["_law_pieces_here", "_law_words_here"] (cO K (fO K A)) :=
  dc (S:=a1M K A) (c:=a1L) T.dU (show bD ["_law_pieces_here", "_law_words_here", "_law_found", "_law_piece", "_law_at"] ["_law_pieces_here", "_law_words_here"] _ from by walk_at "sc") rfl (by kernel_rfl) (by kernel_rfl) (by kernel_rfl) (uL ⟨T.a74,a4D⟩ (uL ⟨_,_,_,(a1Q T hB).mono (by decide),T.jC,T.fW.kp,T.jB⟩ gln))
theorem ar7 (T:Txt K mg A) (hB:Bse base mg A):bY false P w K mg base (iJ P w) 7 A.xO A.ag2 ["_law_script"] (cO K (a8V K A)) :=
  dc (S:=avZ K A) (c:=a72) T.alW (show bD ["_law_script", "_law_pieces_here", "_law_words_here", "_law_handed", "_law_found"] ["_law_script"] _ from by walk_at "sc") rfl (by kernel_rfl) (by kernel_rfl) (by kernel_rfl) (uL ⟨_,_,_,(a0L T hB).mono (by decide),T.gY,T.dR.kp,T.gW⟩ (uL ⟨_,_,_,(a1P T hB).mono (by decide),T.jA,T.fQ.kp,T.j9⟩ (uL ⟨T.ag4,aiO⟩ (uL ⟨_,_,_,(a95 T hB).mono (by decide),T.sW,T.jG.kp,T.sV⟩ (uL ⟨_,_,_,(a96 T hB).mono (by decide),T.sY,T.jH.kp,T.sX⟩ (uL ⟨T.oZ,tM⟩ (uL ⟨_,_,_,(a0M T hB).mono (by decide),T.iB,T.dU.kp,T.gZ⟩ gln)))))))
end
def ab3 (K:Fg) (T U:Addr):Sp:=fun vs H Q _=>∃ (a:Addr) (ns:List Int),vs=[.ref a]∧tE K H a (ns.map V.int)∧ns.length≤63∧K.lookup T=none∧K.lookup U=none∧T≠U∧H T=some (.qF #[])∧H U=some (.qF #[])∧∀ H',Q (.bl true) H'
theorem am1 {K:Fg} {H:Hp} {T a:Addr} {xs:List V} (hK:K.lookup T=none) (hT:H T=some (.qF #[])) (hS:tE K H a xs):T≠a:=fun z=>by
  rw [← z] at hS
  rcases hS with (e | ⟨o,e⟩) | ⟨o,_,_,e,_⟩
  · rw [hT] at e;cases e
  · rw [hT] at e;cases e
  · rw [hK] at e;cases e
theorem akR {K:Fg} {mg:Str→Option Value} {A:bU} (T:Txt K mg A):∀ vs H Q E,ab3 K A.eY A.eZ vs H Q E→cO K (a8V K A) vs H Q E:=by
  rintro vs H Q E ⟨a,ns,rfl,hS,hl,hK,hK2,n12,hT,hT2,k⟩
  have ne:=am1 hK hT hS
  have ne2:=am1 hK2 hT2 hS
  refine ⟨[.ref a],fun b=>if b=a then some (GO.rol (ns.map D.int)) else if b=A.eY then some (GO.tab bC.qual (a6V (inBody cL 1))) else if b=A.eZ then some (GO.tab bO.qual bO.pos) else none,fun d _=>d = .bl true,fun _ _=>False,.cons (.ref a) .nil,fun b o e=>?_,main T a ns hl _ (if_pos rfl) ((if_neg ne).trans (if_pos rfl)) ((if_neg ne2).trans ((if_neg (Ne.symm n12)).trans (if_pos rfl))),fun v H' d G' r g e=>?_,fun C H' G' g z=>z.elim⟩
  · have e2:(if b=a then some (GO.rol (ns.map D.int)) else if b=A.eY then some (GO.tab bC.qual (a6V (inBody cL 1))) else if b=A.eZ then some (GO.tab bO.qual bO.pos) else none)=some o:=e
    split at e2
    · rename_i hb
      subst hb
      cases e2
      exact ⟨_,hS,bF.ints ns⟩
    · split at e2
      · rename_i hb
        subst hb
        cases e2
        exact ⟨#[],hT,.inl rfl⟩
      · split at e2
        · rename_i hb
          subst hb
          cases e2
          exact ⟨#[],hT2,.inl rfl⟩
        · cases e2
  · subst e
    cases r
    exact k H'
def Cb (K:Fg) (x q:Str) (st:Stmt) (f:Addr):Prop:=∃ oc kV dc pm cd ct od an sl,K.lookup f=some ⟨oc,od,.func (PySem.W.fnOf x q (gM st) (bI st) (aC st) .none kV dc pm an cd ct),sl⟩∧PySem.W.codeIn K cd q=true∧PySem.W.keepIn K (.ref f)=true
theorem Cb.get {K:Fg} {x q:Str} {st:Stmt} {f:Addr} (b:Cb K x q st f) (ps:List Str) (h:∀ kV dc pm an cd ct,∀ us:List Value,us.length=ps.length→bindArgs (PySem.W.fnOf x q (gM st) (bI st) (aC st) .none kV dc pm an cd ct) ⟨us,[]⟩=pure (ps.zip us)):∃ d,uU K x q st f d∧Binds K d ps []∧PySem.W.keepIn K (.ref f)=true:=by
  obtain ⟨oc,kV,dc,pm,cd,ct,od,an,sl,l,c,k⟩:=b
  exact ⟨_,adF (st:=st) l c k,aaH (h _ _ _ _ _ _),k⟩
def Fb (K:Fg) (x:Str) (st:Stmt) (f:Addr):Prop:=PySem.W.nsIn K mainGlobals x=some (some (.ref f))∧Cb K x x st f
theorem Fb.get {K:Fg} {q:Str} {st:Stmt} {f:Addr} {h:Heap} {mg:Str→Option Value} (b:Fb K q st f) (XK:K.In h) (GG:h.Ns mainGlobals mg) (ps:List Str) (h:∀ kV dc pm an cd ct,∀ us:List Value,us.length=ps.length→bindArgs (PySem.W.fnOf q q (gM st) (bI st) (aC st) .none kV dc pm an cd ct) ⟨us,[]⟩=pure (ps.zip us)):∃ d,uU K q q st f d∧Binds K d ps []∧mg q=some (.ref f):=by
  obtain ⟨d,F,B,_⟩:=b.2.get ps h
  exact ⟨d,F,B,PySem.W.mg_of XK GG b.1⟩
def Mb (K:Fg) (c:Addr) (x q:Str) (st:Stmt) (f:Addr):Prop:=PySem.W.findIn K (.ref c) x=some (some (.ref f))∧PySem.W.isFn K (.ref f)=true∧Cb K x q st f
theorem Mb.get {K:Fg} {c:Addr} {x q:Str} {st:Stmt} {f:Addr} (b:Mb K c x q st f) (ps:List Str) (h:∀ kV dc pm an cd ct,∀ us:List Value,us.length=ps.length→bindArgs (PySem.W.fnOf x q (gM st) (bI st) (aC st) .none kV dc pm an cd ct) ⟨us,[]⟩=pure (ps.zip us)):∃ d,uU K x q st f d∧Binds K d ps []∧PySem.W.findIn K (.ref c) x=some (some (.ref f))∧PySem.W.isFn K (.ref f)=true∧PySem.W.keepIn K (.ref f)=true:=by
  obtain ⟨d,F,B,k⟩:=b.2.2.get ps h
  exact ⟨d,F,B,b.1,b.2.1,k⟩
theorem all_mk {l:PySem.W.OpenLaw} {w:World} {K:Fg} {h:Heap} {mg:Str→Option Value} {fa:Addr} (XK:K.In h) (GG:h.Ns mainGlobals mg) (hfa:mg "law" = some (.ref fa))
    (uG:(tabIn K "rule_of").isSome=true)
    (a0N:K.lookup (cV K "rule_of").2=none)
    (uH:(tabIn K "in_turn").isSome=true)
    (a0O:K.lookup (cV K "in_turn").2=none)
    (p7:Fb K "numbers_of" vL a5B)
    (a97:Fb K "bare" ag1 ar8)
    (uI:Fb K "words_of" a06 a98)
    (sZ:Fb K "rule_of" cL acH)
    (tD:Fb K "in_turn" wW acI)
    (lM:Fb K "_law_cell_at" rD a0P)
    (mR:Fb K "_law_pieces" tU a1R)
    (p8:Fb K "_law_words" vM a5C)
    (lN:Fb K "_law_numbers" rE a0Q)
    (pA:Fb K "_law_ahead" vN a5D)
    (mU:Fb K "_law_turned" tV a1S)
    (xO:PySem.W.nsIn K mainGlobals "law" = some (some (.ref agM)))
    (agN:K.lookup agM=some ⟨azP,azQ,.func (PySem.W.fnOf "law" "law" (gM a71) (bI a71) (aC a71) .none azR azS azT azU ar9 azV),azW⟩)
    (a72:PySem.W.codeIn K ar9 "law" = true)
    (agO:PySem.W.keepIn K (.ref agM)=true)
    (pB:PySem.W.nsIn K mainGlobals "DepotError" = some (some (.ref fY)))
    (fX:PySem.W.excIn K fY [.type "ValueError",.type "Exception",.type "BaseException",.type "object"] "ValueError.__new__" = true)
    (dW:(PySem.W.clsIn K fY).isSome=true)
    (dX:PySem.W.typeIn K (.ref fY)=some (.type "type"))
    (dY:PySem.W.subIn K (.ref fY) (.type "BaseException")=some true)
    (a0R:PySem.W.nsIn K mainGlobals "NoRule" = some (some (.ref rT)))
    (nZ:PySem.W.excIn K rT [.type "ValueError",.type "Exception",.type "BaseException",.type "object"] "ValueError.__new__" = true)
    (jJ:(PySem.W.clsIn K rT).isSome=true)
    (jK:PySem.W.typeIn K (.ref rT)=some (.type "type"))
    (jL:PySem.W.subIn K (.ref rT) (.type "BaseException")=some true)
    (oY:PySem.W.nsIn K mainGlobals "WORDS" = some (some (.ref ab4)))
    (a0S:K.lookup ab4=some ⟨.type "tuple",none,.seq #[(.str "due" agP),(.str "came" agQ),(.str "amount" agR),(.str "aisle" agS),(.str "place" agT),(.str "lot" agU)] awD,awE⟩)
    (agV:PySem.W.nsIn K mainGlobals "int" = some none)
    (pC:PySem.W.nsIn K mainGlobals "isinstance" = some none)
    (agW:PySem.W.nsIn K mainGlobals "len" = some none)
    (a99:PySem.W.nsIn K mainGlobals "list" = some none)
    (a5E:PySem.W.nsIn K mainGlobals "range" = some none)
    (a0T:PySem.W.nsIn K mainGlobals "sorted" = some none)
    (agX:PySem.W.nsIn K mainGlobals "str" = some none)
    (a5F:PySem.W.nsIn K mainGlobals "tuple" = some none) :
    ∃ fd:FuncData,(∀ (s:Shared) (v:Value),BindsTo s fd ⟨[v],[]⟩ [("_law_script",v)])∧∀ base:Heap,K.In base→base.Ns mainGlobals mg→base.BuiltinsAt mg (cV K "rule_of").2→CodeHd base (cV K "rule_of").1 (cV K "rule_of").2→base.BuiltinsAt mg (cV K "in_turn").2→CodeHd base (cV K "in_turn").1 (cV K "in_turn").2→bY false l.prog w K mg base (iJ l.prog w) 7 fa fd ["_law_script"] (ab3 K (cV K "rule_of").2 (cV K "in_turn").2):=by
  have e:=hfa.symm.trans (PySem.W.mg_of XK GG xO)
  cases e
  obtain ⟨fC,fP,j7,j8⟩:=p7.get XK GG ["piece"] fun _ _ _ _ _ _ us hl=>match us,hl with | [_],_=>rfl
  obtain ⟨a07,wZ,a0C,a0D⟩:=a97.get XK GG ["word"] fun _ _ _ _ _ _ us hl=>match us,hl with | [_],_=>rfl
  obtain ⟨kW,lK,oW,oX⟩:=uI.get XK GG ["text"] fun _ _ _ _ _ _ us hl=>match us,hl with | [_],_=>rfl
  obtain ⟨jE,jG,sV,sW⟩:=sZ.get XK GG ["text"] fun _ _ _ _ _ _ us hl=>match us,hl with | [_],_=>rfl
  obtain ⟨jF,jH,sX,sY⟩:=tD.get XK GG ["pieces", "rule"] fun _ _ _ _ _ _ us hl=>match us,hl with | [_,_],_=>rfl
  obtain ⟨cW,cM,cZ,d7⟩:=lM.get XK GG ["_law_script", "_law_k"] fun _ _ _ _ _ _ us hl=>match us,hl with | [_,_],_=>rfl
  obtain ⟨dM,dR,gW,gY⟩:=mR.get XK GG ["_law_script"] fun _ _ _ _ _ _ us hl=>match us,hl with | [_],_=>rfl
  obtain ⟨fD,fQ,j9,jA⟩:=p8.get XK GG ["_law_script"] fun _ _ _ _ _ _ us hl=>match us,hl with | [_],_=>rfl
  obtain ⟨cX,d8,fU,fV⟩:=lN.get XK GG ["_law_piece", "_law_words_here"] fun _ _ _ _ _ _ us hl=>match us,hl with | [_,_],_=>rfl
  obtain ⟨fG,fW,jB,jC⟩:=pA.get XK GG ["_law_one", "_law_other", "_law_words_here"] fun _ _ _ _ _ _ us hl=>match us,hl with | [_,_,_],_=>rfl
  obtain ⟨dN,dU,gZ,iB⟩:=mU.get XK GG ["_law_pieces_here", "_law_words_here"] fun _ _ _ _ _ _ us hl=>match us,hl with | [_,_],_=>rfl
  have T:Txt K mg ⟨a5B,fC,
    ar8,a07,
    a98,kW,
    acH,jE,
    acI,jF,
    a0P,cW,
    a1R,dM,
    a5C,fD,
    a0Q,cX,
    a5D,fG,
    a1S,dN,
    agM,_,
    fY,
    rT,
    (cV K "rule_of").2,
    (cV K "rule_of").1,
    (cV K "in_turn").2,
    (cV K "in_turn").1⟩:={
    nP:=a6W jG (yK uG) sZ.1,
    nQ:=a6W jH (yK uH) tD.1,
    fP:=fP,
    j7:=j7,
    j8:=j8,
    wZ:=wZ,
    a0C:=a0C,
    a0D:=a0D,
    lK:=lK,
    oW:=oW,
    oX:=oX,
    jG:=jG,
    sV:=sV,
    sW:=sW,
    jH:=jH,
    sX:=sX,
    sY:=sY,
    cM:=cM,
    cZ:=cZ,
    d7:=d7,
    dR:=dR,
    gW:=gW,
    gY:=gY,
    fQ:=fQ,
    j9:=j9,
    jA:=jA,
    d8:=d8,
    fU:=fU,
    fV:=fV,
    fW:=fW,
    jB:=jB,
    jC:=jC,
    dU:=dU,
    gZ:=gZ,
    iB:=iB,
    alW:=adF (st:=a71) agN a72 agO,
    aw0:=aaH (ps:=["_law_script"]) (fun us hl=>match us,hl with | [_],_=>rfl),
    aw1:=PySem.W.mg_of XK GG xO,
    a4Z:=PySem.W.mg_of XK GG pB,
    fX:=fX,
    dW:=dW,
    dX:=dX,
    dY:=dY,
    a73:=PySem.W.mg_of XK GG a0R,
    nZ:=nZ,
    jJ:=jJ,
    jK:=jK,
    jL:=jL,
    oY:=⟨ab4,PySem.W.mg_of XK GG oY,aq1 (xs:=[.str "due",.str "came",.str "amount",.str "aisle",.str "place",.str "lot"]) a0S (show 6≤sizeLine by decide) (.cons ⟨agP,rfl⟩ (.cons ⟨agQ,rfl⟩ (.cons ⟨agR,rfl⟩ (.cons ⟨agS,rfl⟩ (.cons ⟨agT,rfl⟩ (.cons ⟨agU,rfl⟩ .nil)))))) fun _=>(.cons (.str _) (.cons (.str _) (.cons (.str _) (.cons (.str _) (.cons (.str _) (.cons (.str _) .nil))))))⟩,
    alX:=PySem.W.mg_none_of XK GG agV,
    oZ:=PySem.W.mg_none_of XK GG pC,
    a74:=PySem.W.mg_none_of XK GG agW,
    ag4:=PySem.W.mg_none_of XK GG a99,
    yL:=PySem.W.mg_none_of XK GG a5E,
    a75:=PySem.W.mg_none_of XK GG a0T,
    alY:=PySem.W.mg_none_of XK GG agX,
    aaR:=PySem.W.mg_none_of XK GG a5F }
  exact ⟨_,fun s v => .of_eq rfl,fun base _ _ h1 h2 h3 h4=>(ar7 T ⟨⟨h1,h2⟩,h3,h4⟩).imp (akR T)⟩
theorem walk {l:PySem.W.OpenLaw} {q:Program} {loose:List Str} {XP:(Str→Option Value)→Heap→Prop} {YP:World→Heap→Prop} {d:DefRec} {K:Params→PySem.W.Frag} (hn:l.most=some 63) (hdf:d.params.defaults=[])
    (hY:∀ (w:World) (h:Heap),YP w h→(K w.params).In h) (hdm:∀ y∈(["rule_of", "in_turn"]:List Str),((recsOf q).find? (fun e=>e.name == y)).isSome=true) (hT:∀ w:World,(tabIn (K w.params) "rule_of").isSome=true∧(tabIn (K w.params) "in_turn").isSome=true) (hKT:∀ w:World,(K w.params).lookup (cV (K w.params) "rule_of").2=none∧(K w.params).lookup (cV (K w.params) "in_turn").2=none) (hne:∀ w:World,((cV (K w.params) "rule_of").2 == (cV (K w.params) "in_turn").2)=false)
    (F:∀ (w:World) (mg:Str→Option Value) (fa:Addr) (h:Heap),(K w.params).In h→h.Ns mainGlobals mg→mg d.name=some (.ref fa) →
      ∃ fd:FuncData,(∀ (s:Shared) (u:Value),BindsTo s fd ⟨[u],[]⟩ [("_law_script",u)])∧∀ base:Heap,(K w.params).In base→base.Ns mainGlobals mg→base.BuiltinsAt mg (cV (K w.params) "rule_of").2→CodeHd base (cV (K w.params) "rule_of").1 (cV (K w.params) "rule_of").2→base.BuiltinsAt mg (cV (K w.params) "in_turn").2→CodeHd base (cV (K w.params) "in_turn").1 (cV (K w.params) "in_turn").2→bY false l.prog w (K w.params) mg base (iJ l.prog w) 7 fa fd ["_law_script"] (ab3 (K w.params) (cV (K w.params) "rule_of").2 (cV (K w.params) "in_turn").2)) :
    PySem.W.WalkO q loose XP YP l.row.toRowW d [] (fun f vs=>PySem.call f vs):=by
  refine L2.ac4 (qt:=false) (n:=63) (k:=7) (x := "_law_script") (xs:=["rule_of", "in_turn"]) (CX:=fun w=>iJ l.prog w) (TL:=fun w=>[((cV (K w.params) "rule_of").1,(cV (K w.params) "rule_of").2),((cV (K w.params) "in_turn").1,(cV (K w.params) "in_turn").2)]) (sp:=fun w=>ab3 (K w.params) (cV (K w.params) "rule_of").2 (cV (K w.params) "in_turn").2) hn (by decide) hdf ⟨fun _=>rfl,by decide,by decide⟩ hY hdm (fun w p hp=>?_) (fun w p hp=>?_) (fun w mg fa h KX G hmg=>?_) (fun w H a ns hl hO hS=>⟨a,ns,rfl,hS,hl,(hKT w).1,(hKT w).2,beq_eq_false_iff_ne.mp (hne w),hO.1 _ (.head _),hO.1 _ (.tail _ (.head _)),fun _=>rfl⟩) fun _ _ _ _ _ ⟨_,_,_,_,_,_,_,_,_,_,_,_,z⟩=>z
  · rcases List.mem_cons.mp hp with rfl | hp
    · exact ⟨"rule_of",.head _,yK (hT w).1⟩
    · rw [List.mem_singleton.mp hp]
      exact ⟨"in_turn",.tail _ (.head _),yK (hT w).2⟩
  · rcases List.mem_cons.mp hp with rfl | hp
    · exact (hKT w).1
    · rw [List.mem_singleton.mp hp]
      exact (hKT w).2
  · obtain ⟨fd,hb,z⟩:=F w mg fa h KX G hmg
    exact ⟨fd,hb,fun base h1 h2 h3=>z base h1 h2 (h3 _ (.head _)).1 (h3 _ (.head _)).2 (h3 _ (.tail _ (.head _))).1 (h3 _ (.tail _ (.head _))).2⟩
end Law
open PySem PySem.W PyProof.Rows
theorem PySem.Challenge.cw_depot_k42_pieces_in_turn_holds : PySem.Challenge.rw_depot_k42_pieces_in_turn.Holds := by
  w_on;o_law;o_head (PySem.W.kHook Law.frK.heap_39 Law.frA Law.frE)
  case hl=>exact Law.frL
  case hw=>w_witness2
  k_fill
  refine Law.walk (l:=PySem.Challenge.rw_depot_k42_pieces_in_turn) rfl rfl (fun w h Y=>PySem.W.kIn_of Y) (by intro y hy;rcases List.mem_cons.mp hy with rfl | hy;kernel_rfl;rw [List.mem_singleton.mp hy];kernel_rfl) (fun w=>⟨by kernel_rfl,by kernel_rfl⟩) (fun w=>⟨by kernel_rfl,by kernel_rfl⟩) (fun w=>by kernel_rfl) ?F
  case F =>
    intro w mg fa h KX G hmg
    refine' Law.all_mk KX G hmg ?uG ?a0N ?uH ?a0O ?p7 ?a97 ?uI ?sZ ?tD ?lM ?mR ?p8 ?lN ?pA ?mU ?xO ?agN ?a72 ?agO ?pB ?fX ?dW ?dX ?dY ?a0R ?nZ ?jJ ?jK ?jL ?oY ?a0S ?agV ?pC ?agW ?a99 ?a5E ?a0T ?agX ?a5F
    case uG | a0N | uH | a0O=>kernel_rfl
    case p7 | a97 | uI | sZ | tD | lM | mR | p8 | lN | pA | mU=>exact ⟨by k_is,_,_,_,_,_,_,_,_,_,by k_is,by k_is,by k_is⟩
    case xO | agN | a72 | agO | pB=>k_is
    case fX=>k_exc
    case dW=>kernel_rfl
    case dX | dY | a0R=>k_is
    case nZ=>k_exc
    case jJ=>kernel_rfl
    case jK | jL | oY | a0S | agV | pC | agW | a99 | a5E | a0T | agX | a5F=>k_is
