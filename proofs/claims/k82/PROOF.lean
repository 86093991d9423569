import PyProof.Rows.All
import Wide.All
import OpenK.AllK
import Wide.FinOn
import Lean
import PyProof.EqAt
import PyProof.EqKinds
import PyProof.TupleCall
import PySem.Challenge.RW_depot_k82_rows_as_text
set_option Elab.async false
set_option linter.all false
set_option maxRecDepth 100000
set_option maxHeartbeats 4000000
namespace L2
open PySem PySem.Spec PyProof.Rows
/-! ### an exception on its way: its record, with no context, and its newest trace entry -/
/-- the record of x in h: of the class C, no context; its trace's head T, with the mark fl -/
structure Tr (B : Heap) (x : Addr) (C fl : Value) (h : Heap) : Prop where
  ex : ∃ (o : Obj) (vs : Array Value) (T : Addr) (oT : Obj) (ts : Array Value), h.get? x = some o ∧ o.cls = C ∧ o.data = .fields vs ∧ vs[1]? = some (.ref T) ∧ vs[2]? = some .none ∧ B.get? T = none ∧ T ≠ x ∧ h.get? T = some oT ∧ oT.data = .fields ts ∧ ts[3]? = some fl
/-- what stood in B stays, the frames are there, x is new, its record is as told -/
structure FlyS (B : Heap) (l : List Env) (x : Addr) (C fl : Value) (h : Heap) : Prop where
  stays : B.StaysIn h
  new : B.get? x = none
  fun_ : h.FunFrames B l
  tr : Tr B x C fl h
abbrev Fly (B : Heap) (l : List Env) (x : Addr) (C : Value) (h : Heap) : Prop := FlyS B l x C .none h
section
variable {M : Model} {A : Around} {E : Value → Shared → Prop} {s : Shared} {B : Heap} {l : List Env} {env : Env} {outer : List Env} {L x : Addr} {C fl : Value}
/-- one record's field is set: all but it stays -/
theorem upd_rec {h : Heap} {a : Addr} {o : Obj} {vs : Array Value} {i : Nat} {v : Value} (e : h.get? a = some o) (d : o.data = .fields vs) :
    (h.update a (Obj.mapFields (·.setIfInBounds i v))).get? a = some (Obj.mapFields (·.setIfInBounds i v) o) ∧ (Obj.mapFields (·.setIfInBounds i v) o).data = .fields (vs.setIfInBounds i v) ∧ (Obj.mapFields (·.setIfInBounds i v) o).cls = o.cls ∧
    (∀ b, b ≠ a → (h.update a (Obj.mapFields (·.setIfInBounds i v))).get? b = h.get? b) := by
  have d' := Obj.data_mapFields d (·.setIfInBounds i v)
  exact ⟨Heap.get?_update_self _ e (Obj.isFreed_of_fields d'), d', Obj.cls_mapFields _ _, fun b hb => Heap.get?_update_other _ _ (Ne.symm hb)⟩
theorem not_rec {h : Heap} {a b : Addr} {o u : Obj} {vs : Array Value} (e : h.get? a = some o) (d : o.data = .fields vs) (e2 : h.get? b = some u) (n : ∀ ws, u.data ≠ .fields ws) : b ≠ a := fun q => by
  subst q
  rw [e] at e2
  cases e2
  exact n vs d
/-- the flight's mark is taken off -/
theorem land_ok {Q : Unit → Shared → Prop} (f : FlyS B l x C fl s.heap) (h : ∀ h', Fly B l x C h' → s.heap.UpToSlots h' → Q () { s with heap := h' }) : wpAny M A (setFlight (.ref x) none) Q E s := by
  obtain ⟨st, nw, fu, ⟨o, vs, T, oT, ts, e1, e2, e3, e4, e5, e6, e7, e8, e9, e10⟩⟩ := f
  unfold setFlight
  refine wpAny_bind (wpAny_field e1 e3 e4 ?_)
  rw [if_pos (by simp)]
  have l3 : 3 < ts.size := (Array.getElem?_eq_some_iff.mp e10).1
  obtain ⟨u1, u2, u3, u4⟩ := upd_rec (i := 3) (v := (none : Option Addr).elim Value.none fun f => rawInt f) e8 e9
  refine wpAny_setField e8 e9 l3 (h _ ⟨fun b u q => ?_, nw, fu.of_keeps fun b u q n => ⟨u, (u4 b (not_rec e8 e9 q n)).trans q, rfl⟩, ⟨o, vs, T, _, _, (u4 x (Ne.symm e7)).trans e1, e2, e3, e4, e5, e6, e7, u1, u2, ?_⟩⟩ fun b u q n => ⟨u.slots, (u4 b (not_rec e8 e9 q n)).trans q⟩)
  · exact (u4 b fun z => by subst z; rw [e6] at q; cases q).trans (st b u q)
  · simp [l3]
/-- a new trace entry -/
theorem entry_ok {Q : Unit → Shared → Prop} {head : Value} {hadNext : Bool} {o : Obj} {vs : Array Value} (hfr : A.frames = some (env :: outer)) (hf : env.frame = some L) (st : B.StaysIn s.heap) (nw : B.get? x = none) (fu : s.heap.FunFrames B (env :: outer)) (e1 : s.heap.get? x = some o) (e2 : o.cls = C) (e3 : o.data = .fields vs) (e4 : 1 < vs.size) (e5 : vs[2]? = some .none)
    (h : ∀ h', FlyS B (env :: outer) x C (rawInt L) h' → s.heap.UpToSlots h' → Q () { s with heap := h' }) :
    wpAny M A (do let a ← frameOf env; let pl ← entryPlaceOf L hadNext; let b ← EntryCells.newEntry head a .none (rawInt L) .none pl; setField (.ref x) 1 b) Q E s := by
  have nf : x ∉ (env :: outer).filterMap (·.frame) := fun m => by
    obtain ⟨_, u, hu, hn⟩ := fu.mem m
    rw [e1] at hu; cases hu
    exact hn vs e3
  refine wpAny_bind (wpAny_frameOf_fun hfr fu hf fun k so => wpAny_bind (wpAny_entryPlaceOf fun pl hpl => ?_))
  unfold EntryCells.newEntry newFields
  refine wpAny_bind (wpAny_newObj_type ?_ (hpl.sizeOk5 _ _ _ _ _))
  have k1 : k.get? x = some o := (so.2.1 x nf).trans e1
  have tne : k.objs.size ≠ x := fun z => absurd (Heap.lt_size k1) (by rw [z]; exact Nat.lt_irrefl _)
  have kB : ∀ b u, B.get? b = some u → k.get? b = some u := fun b u q => (so.2.1 b fun m => by rw [(fu.mem m).1] at q; cases q).trans (st b u q)
  generalize hT : ({ cls := .type "traceback", dict := none, data := .fields ([head, .ref L, .none, rawInt L, .none] ++ (if pl.isEmpty then List.replicate 6 Value.none else pl)).toArray } : Obj) = oT
  have p1 : (k.push oT).get? x = some o := Heap.get?_push_of_some _ k1
  obtain ⟨u1, u2, u3, u4⟩ := upd_rec (i := 1) (v := .ref k.objs.size) p1 e3
  have keep : ∀ b u, b ≠ x → k.get? b = some u → ((k.push oT).update x (Obj.mapFields (·.setIfInBounds 1 (.ref k.objs.size)))).get? b = some u := fun b u n q => (u4 b n).trans (Heap.get?_push_of_some _ q)
  have pT : (k.push oT).get? k.objs.size = some oT := by
    subst hT
    exact Heap.get?_push_size k rfl
  refine wpAny_setField p1 e3 e4 (h _ ⟨fun b u q => keep b u (fun z => by subst z; rw [nw] at q; cases q) (kB b u q), nw, fu.of_keeps fun b u q n => ?_, ⟨_, _, k.objs.size, oT, _, u1, u3.trans e2, u2, ?_, ?_, ?_, tne, (u4 _ tne).trans pT, by rw [← hT], ?_⟩⟩ fun b u q n => ?_)
  · obtain ⟨sl, z⟩ := so.2.2 b u q
    exact ⟨_, keep b _ (not_rec e1 e3 q n) z, rfl⟩
  · simp [e4]
  · rw [Array.getElem?_setIfInBounds_ne (by decide)]; exact e5
  · cases q : B.get? k.objs.size with
    | none => rfl
    | some u => exact absurd (Heap.lt_size (kB _ u q)) (Nat.lt_irrefl _)
  · first | (simp; done) | (rcases hpl with rfl | ⟨_, _, _, _, _, _, _, rfl⟩ <;> simp)
  · obtain ⟨sl, z⟩ := so.2.2 b u q
    exact ⟨sl, keep b _ (not_rec e1 e3 q n) z⟩
/-- the frame is noted at one that comes from elsewhere -/
theorem look_ok {Q : Unit → Shared → Prop} (hfr : A.frames = some (env :: outer)) (hf : env.frame = some L) (f : Fly B (env :: outer) x C s.heap) (h : ∀ h', FlyS B (env :: outer) x C (rawInt L) h' → s.heap.UpToSlots h' → Q () { s with heap := h' }) : wpAny M A (noteFrame (.ref x) env) Q E s := by
  obtain ⟨st, nw, fu, ⟨o, vs, T, oT, ts, e1, e2, e3, e4, e5, e6, e7, e8, e9, e10⟩⟩ := f
  unfold noteFrame
  simp only [hf]
  refine wpAny_bind (wpAny_field e1 e3 e4 ?_)
  rw [if_pos (by simp)]
  refine wpAny_bind (wpAny_field e8 e9 e10 ?_)
  rw [if_neg (by simp [rawInt])]
  have l3 : 3 < ts.size := (Array.getElem?_eq_some_iff.mp e10).1
  obtain ⟨u1, u2, u3, u4⟩ := upd_rec (i := 3) (v := .none) e8 e9
  refine wpAny_bind (wpAny_setField e8 e9 l3 ?_)
  refine entry_ok hfr hf (fun b u q => (u4 b fun z => by subst z; rw [e6] at q; cases q).trans (st b u q)) nw (fu.of_keeps fun b u q n => ⟨u, (u4 b (not_rec e8 e9 q n)).trans q, rfl⟩) ((u4 x (Ne.symm e7)).trans e1) e2 e3 (Array.getElem?_eq_some_iff.mp e4).1 e5 fun h' f' up => h h' f' ?_
  exact fun b u q n => up b u ((u4 b (not_rec e8 e9 q n)).trans q) n
theorem FlyS.tail {h : Heap} (f : FlyS B (env :: outer) x C fl h) : FlyS B outer x C fl h := by
  obtain ⟨st, nw, ⟨_, _, fu⟩, tr⟩ := f
  exact ⟨st, nw, fu, tr⟩
/-- it leaves one more frame -/
theorem leave_on {Q : Unit → Shared → Prop} (hfr : A.frames = some (env :: outer)) (hf : env.frame = some L) (f : Fly B (env :: outer) x C s.heap) (h : ∀ h', Fly B outer x C h' → s.heap.UpToSlots h' → Q () { s with heap := h' }) : wpAny M A (leaving env (.ref x)) Q E s := by
  unfold leaving
  refine wpAny_bind (look_ok hfr hf f fun h1 f1 up1 => land_ok f1 fun h2 f2 up2 => ?_)
  exact h h2 f2.tail (up1.trans up2)
/-- a new one leaves its first frame -/
theorem leave_made {Q : Unit → Shared → Prop} {h0 : Heap} {us : List Value} (hfr : A.frames = some (env :: outer)) (hf : env.frame = some L) (st : B.StaysIn h0) (fu : h0.FunFrames B (env :: outer)) (hm : Heap.MadeExcOf h0 s.heap x C us) (h : ∀ h', Fly B outer x C h' → s.heap.UpToSlots h' → Q () { s with heap := h' }) : wpAny M A (leaving env (.ref x)) Q E s := by
  obtain ⟨t, e1, _, _⟩ := hm.there
  unfold leaving noteFrame
  simp only [hf]
  refine wpAny_bind (wpAny_bind (wpAny_field (vs := #[.ref t, .none, .none, .none, .bool false, .none]) (i := 1) e1 rfl rfl ?_))
  rw [if_neg (by simp)]
  have nw : B.get? x = none := by
    cases q : B.get? x with
    | none => rfl
    | some u => have := st x u q; rw [hm.new] at this; cases this
  refine entry_ok hfr hf (fun b u q => hm.keeps b u (st b u q)) nw (fu.of_keeps fun b u q _ => ⟨u, hm.keeps b u q, rfl⟩) e1 rfl rfl (by simp) rfl fun h1 f1 up1 => land_ok f1 fun h2 f2 up2 => ?_
  exact h h2 f2.tail (up1.trans up2)
end
/-! ### the end of an iterator, also within an except suite -/
/-- no exception is handled, or one with no context -/
def HndS (A : Around) (h : Heap) : Prop := A.handled = none ∨ ∃ x o vs, A.handled = some (.ref x) ∧ h.get? x = some o ∧ o.data = .fields vs ∧ vs[2]? = some .none
theorem entry_unchain : entryFor table "proto.unchain" = some Builtin.«proto.unchain» := entryFor_of_fast (by kernel_rfl)
section
variable {prog : Program} {w : World} {A : Around} {E : Value → Shared → Prop} {s : Shared}
theorem raise_new {α : Type} {Q : α → Shared → Prop} {a : Addr} {oa : Obj} {ws : Array Value} (hq : HndS A s.heap) (ea : s.heap.get? a = some oa) (da : oa.data = .fields ws) (la : 2 < ws.size) (na : ∀ x, A.handled = some (.ref x) → x ≠ a)
    (h : ∀ h', (∀ b, b ≠ a → h'.get? b = s.heap.get? b) → (∃ o, h'.get? a = some o ∧ o.cls = oa.cls) → E (.ref a) { s with heap := h' }) : wpAny (model prog w) A (raiseNew (.ref a) : Sem α) Q E s := by
  unfold raiseNew
  refine wpAny_bind (wpAny_handled ?_)
  rcases hq with hn | ⟨x, o, vs, hx, ex, dx, vx⟩
  · rw [hn]
    exact wpAny_bind (wpAny_pure (wpAny_throw (h s.heap (fun _ _ => rfl) ⟨oa, ea, rfl⟩)))
  · rw [hx]
    have ne := na x hx
    show wpAny (model prog w) _ (if ((Value.ref x) != (Value.ref a)) = true then _ else _) _ _ _
    rw [if_pos (by simpa using ne)]
    refine wpAny_bind (wpAny_holding (wpAny_runValue (codeAny_builtin entry_unchain ?_)))
    show wpAny (model prog w) _ (field (.ref x) 2 >>= _) _ _ _
    refine wpAny_bind (wpAny_field ex dx vx ?_)
    show wpAny (model prog w) _ (if ((Value.none : Value) == Value.none) = true then _ else _) _ _ _
    rw [if_pos (by decide)]
    refine wpAny_bind (wpAny_pure (wpAny_pure ?_))
    obtain ⟨u1, u2, u3, u4⟩ := upd_rec (i := 2) (v := .ref x) ea da
    show wpAny (model prog w) _ (setField (.ref a) 2 (.ref x) >>= _) _ _ _
    exact wpAny_bind (wpAny_setField ea da la (wpAny_throw (h _ u4 ⟨_, u1, u3⟩)))
/-- StopIteration is made and raised -/
theorem stop_raise {α : Type} {Q : α → Shared → Prop} (hq : HndS A s.heap) (h : ∀ a h', (∀ b o, s.heap.get? b = some o → h'.get? b = some o) → (∃ o, h'.get? a = some o ∧ o.cls = .type "StopIteration") → E (.ref a) { s with heap := h' }) :
    wpAny (model prog w) A (newExc (.type "StopIteration") [] >>= fun e => (raiseNew e : Sem α)) Q E s := by
  refine wpAny_bind ?_
  unfold newExc newTuple
  refine wpAny_bind (wpAny_newObj_type (wpAny_bind (wpAny_of_eq (a := Value.none) (by simp only [firstArgMember]; rfl) (wpAny_newObj_type ?_ (by size_fits)))) (by size_fits))
  generalize hh : s.heap.push { cls := .type "tuple", data := .seq ([] : List Value).toArray } = h1
  generalize ho : ({ cls := .type "StopIteration", data := .fields (#[.ref s.heap.objs.size, .none, .none, .none, .bool false, .none] ++ ownMembersOf (.type "StopIteration") []) } : Obj) = o1
  have k1 : ∀ b o, s.heap.get? b = some o → (h1.push o1).get? b = some o := fun b o e => Heap.get?_push_of_some _ (hh ▸ Heap.get?_push_of_some _ e)
  have ea : (h1.push o1).get? h1.objs.size = some o1 := by
    subst ho
    exact Heap.get?_push_size h1 rfl
  have old : ∀ b o, s.heap.get? b = some o → b ≠ h1.objs.size := fun b o e z => by
    have l1 : b < h1.objs.size := by
      rw [← hh, Heap.size_push]
      exact Nat.lt_succ_of_lt (Heap.lt_size e)
    exact absurd l1 (by rw [z]; exact Nat.lt_irrefl _)
  refine raise_new (ws := #[.ref s.heap.objs.size, .none, .none, .none, .bool false, .none] ++ ownMembersOf (.type "StopIteration") []) ?_ ea (by rw [← ho]) (by simp [ownMembersOf]) (fun x hx => ?_) fun h' k c => h h1.objs.size h' (fun b o e => (k b (old b o e)).trans (k1 b o e)) ?_
  · rcases hq with z | ⟨x, o, vs, a1, a2, a3⟩
    · exact .inl z
    · exact .inr ⟨x, o, vs, a1, k1 _ _ a2, a3⟩
  · rcases hq with z | ⟨x', o, vs, a1, a2, a3⟩
    · rw [z] at hx; cases hx
    · rw [a1] at hx; cases hx
      exact old _ _ a2
  · obtain ⟨o, e, c⟩ := c
    exact ⟨o, e, by rw [c, ← ho]⟩
/-- an iterator whose __next__ raises StopIteration has ended -/
theorem next_stop {T id : String} {b : Builtin} {it : Addr} {Q : Option Value → Shared → Prop} (slot : Slot T (Str.ofString "__next__") id) (entry : entryFor table id = some b) (hT : s.TypeIs (.ref it) T) (args : argsOk id ⟨[.ref it], []⟩)
    (hb : wpAny (model prog w) A.in1 (b ⟨[.ref it], []⟩) (fun _ _ => False) (fun e s' => ∃ a o, e = .ref a ∧ s'.heap.get? a = some o ∧ o.cls = .type "StopIteration" ∧ Q none s') s) : wpAny (model prog w) A (pyNext (.ref it)) Q E s := by
  unfold pyNext
  refine wpAny_bind (wpAny_attempt (wpAny_callSpecial?_slot hT slot (wpAny_call_entry slot hT entry (wpAny_mono hb (fun _ _ z => z.elim) fun e s' z => ?_) args)))
  obtain ⟨a, o, rfl, e1, e2, q⟩ := z
  exact wpAny_bind (wpAny_isInstance (T := "StopIteration") (b := true) ⟨o, e1, e2⟩ isSubtype_stop (wpAny_pure q))
/-- the iterator's own record turns, the handled exception's stays -/
theorem hnd_upd {it : Addr} {o : Obj} {vs : Array Value} {i : Nat} {v : Value} (hq : HndS A s.heap) (e : s.heap.get? it = some o) (d : o.data = .fields vs) (l : vs[2]? ≠ some .none) : HndS A (s.heap.update it (Obj.mapFields (·.setIfInBounds i v))) := by
  rcases hq with z | ⟨x, ox, ws, a1, a2, a3, a4⟩
  · exact .inl z
  · refine .inr ⟨x, ox, ws, a1, ?_, a3, a4⟩
    have ne : x ≠ it := fun z => by
      subst z
      rw [e] at a2
      cases a2
      rw [d] at a3
      cases a3
      exact l a4
    exact ((upd_rec e d).2.2.2 x ne).trans a2
theorem list_stop {it l : Addr} {i : Nat} {items : Array Value} {Q : Option Value → Shared → Prop} (hq : HndS A s.heap) (hit : s.heap.IsListIter it l i) (hl : s.heap.IsList l items) (hx : items[i]? = none)
    (h : ∀ h', Heap.ExtBut it s.heap h' → Q none { s with heap := h' }) : wpAny (model prog w) A (pyNext (.ref it)) Q E s := by
  obtain ⟨o, e1, c1, d1⟩ := id hit
  obtain ⟨ol, e2, _, nl, d2⟩ := hl
  refine next_stop slot_listiter_next entry_listiter_next hit.typeIs (args_listiter_next _) ?_
  show wpAny (model prog w) _ (field (.ref it) 0 >>= _) _ _ s
  refine wpAny_bind (wpAny_field e1 d1 (x := .ref l) rfl ?_)
  show wpAny (model prog w) _ (field (.ref it) 1 >>= _) _ _ s
  refine wpAny_bind (wpAny_field e1 d1 (x := .int i 0) rfl ?_)
  show wpAny (model prog w) _ (seqItems? (.ref l) >>= _) _ _ s
  refine wpAny_bind (wpAny_seqItems e2 d2 ?_)
  simp only [hx, Int.toNat_natCast]
  refine wpAny_bind (wpAny_rule (wpAny_bind (wpAny_setField e1 d1 (by simp) ?_)))
  refine stop_raise (A := A.in1) (hnd_upd hq e1 d1 (by simp)) fun a h' k c => ?_
  obtain ⟨oa, ea, ca⟩ := c
  exact ⟨a, oa, rfl, ea, ca, h h' fun b ob n e => k b ob (((upd_rec e1 d1).2.2.2 b n).trans e)⟩
theorem tup_stop {it l : Addr} {i : Nat} {items : Array Value} {Q : Option Value → Shared → Prop} (hq : HndS A s.heap) (hit : s.heap.IsTupleIter it l i) (hl : s.heap.IsTuple l items) (hx : items[i]? = none)
    (h : ∀ h', Heap.ExtBut it s.heap h' → Q none { s with heap := h' }) : wpAny (model prog w) A (pyNext (.ref it)) Q E s := by
  obtain ⟨o, e1, c1, d1⟩ := id hit
  obtain ⟨ol, e2, _, nl, d2⟩ := hl
  refine next_stop F.slot_tuple_iterator_next F.entry_tuple_iterator_next hit.typeIs (F.args_tuple_iterator_next_1 _) ?_
  show wpAny (model prog w) _ (field (.ref it) 0 >>= _) _ _ s
  refine wpAny_bind (wpAny_field e1 d1 (x := .ref l) rfl ?_)
  show wpAny (model prog w) _ (field (.ref it) 1 >>= _) _ _ s
  refine wpAny_bind (wpAny_field e1 d1 (x := .int i 0) rfl ?_)
  show wpAny (model prog w) _ (seqItems? (.ref l) >>= _) _ _ s
  refine wpAny_bind (wpAny_seqItems e2 d2 ?_)
  simp only [hx, Int.toNat_natCast]
  refine wpAny_bind (wpAny_rule (wpAny_bind (wpAny_setField e1 d1 (by simp) ?_)))
  refine stop_raise (A := A.in1) (hnd_upd hq e1 d1 (by simp)) fun a h' k c => ?_
  obtain ⟨oa, ea, ca⟩ := c
  exact ⟨a, oa, rfl, ea, ca, h h' fun b ob n e => k b ob (((upd_rec e1 d1).2.2.2 b n).trans e)⟩
theorem rng_stop {it : Addr} {x left step : Int} {Q : Option Value → Shared → Prop} (hq : HndS A s.heap) (hit : IsRangeIter s.heap it x left step) (hleft : left ≤ 0)
    (h : ∀ h', Heap.ExtBut it s.heap h' → Q none { s with heap := h' }) : wpAny (model prog w) A (pyNext (.ref it)) Q E s := by
  refine next_stop F.slot_range_iterator_next F.entry_range_iterator_next ⟨_, hit, rfl⟩ (F.args_range_iterator_next_1 _) ?_
  show wpAny (model prog w) _ (field (.ref it) 0 >>= _) _ _ s
  refine wpAny_bind (wpAny_field hit rfl (i := 0) rfl ?_)
  show wpAny (model prog w) _ (field (.ref it) 1 >>= _) _ _ s
  refine wpAny_bind (wpAny_field hit rfl (i := 1) rfl ?_)
  show wpAny (model prog w) _ (field (.ref it) 2 >>= _) _ _ s
  refine wpAny_bind (wpAny_field hit rfl (i := 2) rfl ?_)
  show wpAny (model prog w) _ (if left ≤ 0 then _ else _) _ _ s
  rw [if_pos hleft]
  refine wpAny_bind (wpAny_rule (wpAny_bind ?_))
  refine stop_raise (A := A.in1) hq fun a h' k c => ?_
  obtain ⟨oa, ea, ca⟩ := c
  exact ⟨a, oa, rfl, ea, ca, h h' fun b ob n e => k b ob e⟩
theorem strA_stop {it : Addr} {x : Str} {t : Tok} {i : Nat} {Q : Option Value → Shared → Prop} (hq : HndS A s.heap) (hit : s.heap.IsStrIter it "str_ascii_iterator" x t i) (hx : x.cps[i]? = none)
    (h : ∀ h', Heap.ExtBut it s.heap h' → Q none { s with heap := h' }) : wpAny (model prog w) A (pyNext (.ref it)) Q E s := by
  obtain ⟨o, e1, c1, d1⟩ := id hit
  refine next_stop F.slot_str_ascii_iterator_next F.entry_str_ascii_iterator_next hit.typeIs (F.args_str_ascii_iterator_next_1 _) ?_
  show wpAny (model prog w) _ (field (.ref it) 0 >>= _) _ _ s
  refine wpAny_bind (wpAny_field e1 d1 (x := .str x t) rfl ?_)
  show wpAny (model prog w) _ (field (.ref it) 1 >>= _) _ _ s
  refine wpAny_bind (wpAny_field e1 d1 (x := .int i 0) rfl ?_)
  simp only [hx, Int.toNat_natCast]
  refine wpAny_bind (wpAny_rule (wpAny_bind (wpAny_setField e1 d1 (by simp) (wpAny_bind (wpAny_letGo ?_)))))
  refine stop_raise (A := A.in1) (hnd_upd hq e1 d1 (by simp)) fun a h' k c => ?_
  obtain ⟨oa, ea, ca⟩ := c
  exact ⟨a, oa, rfl, ea, ca, h h' fun b ob n e => k b ob (((upd_rec e1 d1).2.2.2 b n).trans e)⟩
theorem strW_stop {it : Addr} {x : Str} {t : Tok} {i : Nat} {Q : Option Value → Shared → Prop} (hq : HndS A s.heap) (hit : s.heap.IsStrIter it "str_iterator" x t i) (hx : x.cps[i]? = none)
    (h : ∀ h', Heap.ExtBut it s.heap h' → Q none { s with heap := h' }) : wpAny (model prog w) A (pyNext (.ref it)) Q E s := by
  obtain ⟨o, e1, c1, d1⟩ := id hit
  refine next_stop F.slot_str_iterator_next F.entry_str_iterator_next hit.typeIs (F.args_str_iterator_next_1 _) ?_
  show wpAny (model prog w) _ (field (.ref it) 0 >>= _) _ _ s
  refine wpAny_bind (wpAny_field e1 d1 (x := .str x t) rfl ?_)
  show wpAny (model prog w) _ (field (.ref it) 1 >>= _) _ _ s
  refine wpAny_bind (wpAny_field e1 d1 (x := .int i 0) rfl ?_)
  simp only [hx, Int.toNat_natCast]
  refine wpAny_bind (wpAny_rule (wpAny_bind (wpAny_setField e1 d1 (by simp) (wpAny_bind (wpAny_letGo ?_)))))
  refine stop_raise (A := A.in1) (hnd_upd hq e1 d1 (by simp)) fun a h' k c => ?_
  obtain ⟨oa, ea, ca⟩ := c
  exact ⟨a, oa, rfl, ea, ca, h h' fun b ob n e => k b ob (((upd_rec e1 d1).2.2.2 b n).trans e)⟩
end
end L2
-- CHANGE: your row's module here, as the last of these rows
set_option Elab.async false
set_option linter.all false
set_option maxRecDepth 100000
/-! THE HAND LAYER, for ints, bools, texts, own classes, LISTS and tuples (index, slices, in, append, pop ..), calls, loops. Paste it whole ahead of your own text; what your proof does not reach may be deleted. -/
namespace L2
open PySem PySem.Spec PyProof.Rows

/-- a key: an int or a str -/
abbrev Key := Sum Int Str
def keyIs : Key → Value → Bool
  | .inl k, v => Value.isInt k v
  | .inr x, v => Value.isStrOf x v
def keyH (w : World) : Key → Int
  | .inl k => hashInt k
  | .inr x => hashStr w x
theorem keyIs_shape : ∀ {k : Key} {v : Value}, keyIs k v = true → (∃ i t, k = Sum.inl i ∧ v = Value.int i t) ∨ (∃ x t, k = Sum.inr x ∧ v = Value.str x t)
  | .inl i, v, h => by
    obtain ⟨t, e⟩ := Value.isInt_shape (k := i) (v := v) h
    exact .inl ⟨i, t, rfl, e⟩
  | .inr x, v, h => by
    obtain ⟨t, e⟩ := Value.isStrOf_shape (x := x) (v := v) h
    exact .inr ⟨x, t, rfl, e⟩
theorem key_ll (a b : Int) : decide ((Sum.inl a : Key) = Sum.inl b) = (a == b) := by
  by_cases e : a = b
  · subst e; simp
  · have h : ¬ (Sum.inl a : Key) = Sum.inl b := fun q => e (Sum.inl.inj q)
    rw [decide_eq_false h]
    exact (beq_eq_false_iff_ne.mpr e).symm
theorem key_rr (a b : Str) : decide ((Sum.inr a : Key) = Sum.inr b) = decide (a = b) := by
  by_cases e : a = b
  · subst e; simp
  · have h : ¬ (Sum.inr a : Key) = Sum.inr b := fun q => e (Sum.inr.inj q)
    rw [decide_eq_false h, decide_eq_false e]
theorem key_lr (a : Int) (b : Str) : decide ((Sum.inl a : Key) = Sum.inr b) = false := decide_eq_false (fun q => nomatch q)
theorem key_rl (a : Str) (b : Int) : decide ((Sum.inr a : Key) = Sum.inl b) = false := decide_eq_false (fun q => nomatch q)

def mixKind (prog : Program) (w : World) : PySem.KeyKind prog w Key where
  is := keyIs
  hash := keyH w
  inj := fun v a b ha hb => by
    rcases keyIs_shape ha with ⟨i, t, rfl, rfl⟩ | ⟨x, t, rfl, rfl⟩
    · rcases keyIs_shape hb with ⟨j, u, rfl, e⟩ | ⟨y, u, rfl, e⟩
      · injection e with e1 _; rw [e1]
      · exact nomatch e
    · rcases keyIs_shape hb with ⟨j, u, rfl, e⟩ | ⟨y, u, rfl, e⟩
      · exact nomatch e
      · injection e with e1 _; rw [e1]
  byValue := fun k v h => by
    rcases keyIs_shape h with ⟨i, t, rfl, rfl⟩ | ⟨x, t, rfl, rfl⟩ <;> rfl
  pyHash := fun hv h => by
    rcases keyIs_shape hv with ⟨i, t, rfl, rfl⟩ | ⟨x, t, rfl, rfl⟩
    · exact wpAny_pyHash_int h
    · exact wpAny_pyHash_str h
  eqBool := fun hu hv h => by
    rcases keyIs_shape hu with ⟨i, t, rfl, rfl⟩ | ⟨x, t, rfl, rfl⟩
    · rcases keyIs_shape hv with ⟨j, u, rfl, rfl⟩ | ⟨y, u, rfl, rfl⟩
      · rw [key_ll] at h; exact wpAny_eqBool_int h
      · rw [key_lr] at h; exact SeqAt.EqAt.int_str i t y u _ _ _ _ h
    · rcases keyIs_shape hv with ⟨j, u, rfl, rfl⟩ | ⟨y, u, rfl, rfl⟩
      · rw [key_rl] at h; exact SeqAt.EqAt.str_int x t j u _ _ _ _ h
      · rw [key_rr] at h; exact wpAny_eqBool_str h
  «strs» := fun k x t v h => by
    rcases keyIs_shape h with ⟨i, u, rfl, e⟩ | ⟨y, u, rfl, e⟩
    · exact nomatch e
    · injection e with e1 _
      subst e1
      cases v <;> rfl

end L2

namespace L2
open PySem PySem.Spec PyProof.Rows

/-- a value, without the heap -/
inductive V where
  | non | bl (b : Bool) | int (i : Int) | str (x : Str) | byt (b : Array UInt8) | flt (b : UInt64) | ref (a : Addr) | ty (n : String)
  deriving DecidableEq

def RelV : V → Value → Prop
  | .non, u => u = Value.none
  | .bl b, u => u = Value.bool b
  | .int i, u => ∃ t, u = Value.int i t
  | .str x, u => ∃ t, u = Value.str x t
  | .byt b, u => ∃ t, u = Value.bytes b t
  | .flt b, u => ∃ t, u = Value.float b t
  | .ref a, u => u = Value.ref a
  | .ty n, u => u = Value.type n

abbrev Vals : List V → List Value → Prop := Paired RelV
theorem Vals.length {xs : List V} {us : List Value} (r : Vals xs us) : xs.length = us.length := Paired.length r
theorem Vals.get : ∀ {xs : List V} {us : List Value} {i : Nat} {x : V}, Vals xs us → xs[i]? = some x → ∃ u, us[i]? = some u ∧ RelV x u
  | _, _, _, _, .nil, e => by simp at e
  | _, _, 0, _, .cons r _, e => by simp at e; subst e; exact ⟨_, rfl, r⟩
  | _, _, i + 1, x, .cons _ t, e => by
    obtain ⟨u, h1, h2⟩ := Vals.get (i := i) (x := x) t (by simpa using e)
    exact ⟨u, by simpa using h1, h2⟩
theorem Vals.set {x : V} {u : Value} (r : RelV x u) : ∀ {xs : List V} {us : List Value} (i : Nat), Vals xs us → Vals (xs.set i x) (us.set i u)
  | _, _, _, .nil => .nil
  | _, _, 0, .cons _ t => .cons r t
  | _, _, i + 1, .cons q t => .cons q (Vals.set r i t)
theorem Vals.append : ∀ {xs ys : List V} {us ws : List Value}, Vals xs us → Vals ys ws → Vals (xs ++ ys) (us ++ ws)
  | _, _, _, _, .nil, s => s
  | _, _, _, _, .cons r t, s => .cons r (Vals.append t s)
theorem Vals.take : ∀ {xs : List V} {us : List Value} (n : Nat), Vals xs us → Vals (xs.take n) (us.take n)
  | _, _, 0, _ => .nil
  | _, _, _ + 1, .nil => .nil
  | _, _, n + 1, .cons r t => .cons r (Vals.take n t)
theorem Vals.drop : ∀ {xs : List V} {us : List Value} (n : Nat), Vals xs us → Vals (xs.drop n) (us.drop n)
  | _, _, 0, r => r
  | _, _, _ + 1, .nil => .nil
  | _, _, n + 1, .cons _ t => Vals.drop n t
def RelO : Option V → Option Value → Prop
  | some v, some u => RelV v u
  | none, none => True
  | _, _ => False
def KV {κ : Type} : List (κ × V) → List (κ × Value) → Prop := Paired fun (p : κ × V) (q : κ × Value) => p.1 = q.1 ∧ RelV p.2 q.2

/-- a key of a dict (00_mix): an int or a text -/
def kV : Key → V
  | .inl i => .int i
  | .inr x => .str x

/-- what stands at a tracked address -/
inductive HO where
  /-- a list -/
  | lst (xs : List V)
  /-- a tuple (never changes) -/
  | tup (xs : List V)
  /-- a dict whose keys are ints and texts; one whose keys are tuples of ints and texts (the empty one is both) -/
  | dK (kvs : List (Key × V)) | dT (kvs : List (List Key × V))
  /-- a set of ints: its members, its size -/
  | set (S : Int → Bool) (n : Nat)
  /-- an instance of the class at C, its dict at dx, its attributes -/
  | ins (C dx : Addr) (fs : List (Str × V))
  /-- the dict of the instance at x -/
  | own (x : Addr)
  /-- the dict of an exception -/
  | xd (fs : List (Str × V))
  /-- a bound method, f of x -/
  | met (f x : Addr)
  /-- a range object lo, lo + 1, .. below hi -/
  | rng (lo hi : Int)
  /-- a thing that is known to the object (the script; a dict while a loop walks it): read, never written while it is so -/
  | frz (o : Obj) (u : HO)
  /-- a code object's table -/
  | tbl (ps : Array Value)
  /-- any other thing, by what is true of its one object (a def of one's own: SetO a S n := HO.ext fun h => ..) -/
  | ext (φ : Heap → Prop)

abbrev Hp := Addr → Option HO
def upd (H : Hp) (a : Addr) (o : HO) : Hp := fun b => if b = a then some o else H b
theorem upd_same {H : Hp} {a : Addr} {o : HO} : upd H a o a = some o := by unfold upd; rw [if_pos rfl]
theorem upd_ne {H : Hp} {a b : Addr} {o : HO} (h : b ≠ a) : upd H a o b = H b := by unfold upd; rw [if_neg h]
theorem ne_of_none {H : Hp} {a b : Addr} {o : HO} (h : H a = some o) (h' : H b = none) : a ≠ b := by
  intro e; subst e; rw [h] at h'; cases h'

section
variable (P : Program) (w : World)
def ObjOk (H : Hp) (h : Heap) (a : Addr) : HO → Prop
  | .lst xs => xs.length ≤ sizeLine ∧ ∃ (its : List Value) (n : Nat), Vals xs its ∧ h.get? a = some { cls := .type "list", data := .seq its.toArray n }
  | .tup xs => xs.length ≤ sizeLine ∧ ∃ its : List Value, Vals xs its ∧ IsTup h a its.toArray
  | .dK kvs => kvs.length ≤ sizeLine ∧ (a == sysModules) = false ∧ ∃ vs, KV kvs vs ∧ h.DictOf (mixKind P w) a vs
  | .dT kvs => kvs.length ≤ sizeLine ∧ (a == sysModules) = false ∧ ∃ xs : List (List Key × Addr × Value),
      Paired (fun (p : List Key × V) (q : List Key × Addr × Value) => p.1 = q.1 ∧ H q.2.1 = some (.tup (p.1.map kV)) ∧ RelV p.2 q.2.2) kvs xs ∧
      ∃ o es ep, h.get? a = some o ∧ o.ExactDict ∧ o.data = .dict es ep ∧ es.toList = xs.map (entryOfKey (tupleKind (mixKind P w))) ∧ (xs.map (·.1)).Nodup
  | .set S n => h.SetOf (intKind P w) a S n
  | .ins C dx fs => H dx = some (.own a) ∧ fs.length ≤ 1000 ∧ dx ≠ a ∧ h.get? a = some (PySem.W.instObj C dx) ∧
      ∃ mA, h.Ns1 dx mA ∧ (∀ f, RelO (fs.lookup f) (mA f)) ∧ PySem.Within mA (fs.map (·.1))
  | .own _ => ∃ o, h.get? a = some o
  | .xd fs => ∃ mA, h.Ns1 a mA ∧ ∀ f, RelO (fs.lookup f) (mA f)
  | .rng lo hi => ∃ t u v, h.get? a = some { cls := .type "range", data := .fields #[.int lo t, .int hi u, .int 1 v] }
  | .frz o u => h.get? a = some o ∧ ObjOk H h a u
  | .tbl ps => h.get? a = some { cls := .none, data := .fields ps }
  | .met f x => h.get? a = some (PySem.W.methodObj (.ref f) (.ref x))
  | .ext φ => φ h ∧ (∃ o, h.get? a = some o) ∧ ∀ h1 h2 : Heap, φ h1 → (∀ o, h1.get? a = some o → h2.get? a = some o) → φ h2
/-- the abstract heap is held -/
def HOk (H : Hp) (h : Heap) : Prop := ∀ a o, H a = some o → ObjOk P w H h a o
end

section
variable {P : Program} {w : World} {H H' : Hp} {h h' : Heap} {a : Addr} {o : HO}
theorem ObjOk.lt (x : ObjOk P w H h a o) : a < h.objs.size := by
  cases o with
  | lst xs => obtain ⟨_, _, _, _, e⟩ := x; exact Heap.lt_size e
  | tup xs => obtain ⟨_, _, _, p⟩ := x; exact p.lt
  | dK kvs => obtain ⟨_, _, _, _, o, _, _, e, _⟩ := x; exact Heap.lt_size e
  | dT kvs => obtain ⟨_, _, _, _, o, _, _, e, _⟩ := x; exact Heap.lt_size e
  | set S n => obtain ⟨o, _, _, _, e, _⟩ := x; exact Heap.lt_size e
  | ins C dx fs => obtain ⟨_, _, _, e, _⟩ := x; exact Heap.lt_size e
  | own y => obtain ⟨_, e⟩ := x; exact Heap.lt_size e
  | xd fs => obtain ⟨_, ⟨_, _, _, e, _⟩, _⟩ := x; exact Heap.lt_size e
  | rng lo hi => obtain ⟨_, _, _, e⟩ := x; exact Heap.lt_size e
  | frz ob u => obtain ⟨e, _⟩ := x; exact Heap.lt_size e
  | tbl ps => exact Heap.lt_size (show h.get? a = some _ from x)
  | met f y => exact Heap.lt_size (show h.get? a = some _ from x)
  | ext φ => obtain ⟨_, ⟨_, e⟩, _⟩ := x; exact Heap.lt_size e
theorem Paired.mapP {α β : Type} {F G : α → β → Prop} : ∀ {l₁ : List α} {l₂ : List β}, Paired F l₁ l₂ → (∀ a b, F a b → G a b) → Paired G l₁ l₂
  | _, _, .nil, _ => .nil
  | _, _, .cons r t, f => .cons (f _ _ r) (Paired.mapP t f)
/-- what an object's description leans on: its own object, its own dict, the tuples -/
theorem ObjOk.stay (x : ObjOk P w H h a o) (k : ∀ b u, (b = a ∨ H b = some (.own a)) → h.get? b = some u → h'.get? b = some u)
    (ho : ∀ b, H b = some (.own a) → H' b = some (.own a)) (ht : ∀ b xs, H b = some (.tup xs) → H' b = some (.tup xs)) : ObjOk P w H' h' a o := by
  induction o with
  | lst xs => obtain ⟨z, its, n, r, e⟩ := x; exact ⟨z, its, n, r, k _ _ (.inl rfl) e⟩
  | tup xs => obtain ⟨z, its, r, ob, e, c⟩ := x; exact ⟨z, its, r, ob, k _ _ (.inl rfl) e, c⟩
  | dK kvs => obtain ⟨z, y, vs, r, ob, es, ep, e, c⟩ := x; exact ⟨z, y, vs, r, ob, es, ep, k _ _ (.inl rfl) e, c⟩
  | dT kvs =>
    obtain ⟨z, y, xs, r, ob, es, ep, e, c⟩ := x
    exact ⟨z, y, xs, Paired.mapP r fun p q z => ⟨z.1, ht _ _ z.2.1, z.2.2⟩, ob, es, ep, k _ _ (.inl rfl) e, c⟩
  | set S n => obtain ⟨ob, es, ep, t, e, c⟩ := x; exact ⟨ob, es, ep, t, k _ _ (.inl rfl) e, c⟩
  | ins C dx fs =>
    obtain ⟨d, z, ne, e, mA, ⟨od, es, ep, e2, c⟩, r⟩ := x
    exact ⟨ho _ d, z, ne, k _ _ (.inl rfl) e, mA, ⟨od, es, ep, k _ _ (.inr d) e2, c⟩, r⟩
  | own y => obtain ⟨ob, e⟩ := x; exact ⟨ob, k _ _ (.inl rfl) e⟩
  | xd fs => obtain ⟨mA, ⟨od, es, ep, e, c⟩, r⟩ := x; exact ⟨mA, ⟨od, es, ep, k _ _ (.inl rfl) e, c⟩, r⟩
  | rng lo hi => obtain ⟨t, u, v, e⟩ := x; exact ⟨t, u, v, k _ _ (.inl rfl) e⟩
  | frz ob u ih => obtain ⟨e, q⟩ := x; exact ⟨k _ _ (.inl rfl) e, ih q⟩
  | tbl ps =>
    have e : h.get? a = some { cls := .none, data := .fields ps } := x
    show h'.get? a = some { cls := .none, data := .fields ps }
    exact k a _ (.inl rfl) e
  | met f y =>
    have e : h.get? a = some (PySem.W.methodObj (.ref f) (.ref y)) := x
    show h'.get? a = some (PySem.W.methodObj (.ref f) (.ref y))
    exact k a _ (.inl rfl) e
  | ext φ => obtain ⟨p, ⟨o, e⟩, st⟩ := x; exact ⟨st _ _ p fun o q => k _ _ (.inl rfl) q, ⟨o, k _ _ (.inl rfl) e⟩, st⟩
theorem HOk.lt (x : HOk P w H h) (e : H a = some o) : a < h.objs.size := (x a o e).lt
theorem HOk.fresh (x : HOk P w H h) (e : h.objs.size ≤ a) : H a = none := by
  cases q : H a with
  | none => rfl
  | some u => exact absurd (Nat.lt_of_lt_of_le (x.lt q) e) (Nat.lt_irrefl _)
/-- every object of the heap is kept -/
theorem HOk.kept (x : HOk P w H h) (k : ∀ b u, h.get? b = some u → h'.get? b = some u) : HOk P w H h' := fun a o e =>
  (x a o e).stay (fun b u _ q => k b u q) (fun _ q => q) fun _ _ q => q
/-- a new object is laid and tracked -/
theorem HOk.laid (x : HOk P w H h) (k : ∀ b u, h.get? b = some u → h'.get? b = some u) (hp : h.objs.size ≤ a) (new : ObjOk P w (upd H a o) h' a o) : HOk P w (upd H a o) h' := fun b u e => by
  have hn := x.fresh hp
  by_cases hb : b = a
  · subst hb; rw [upd_same] at e; cases e; exact new
  · rw [upd_ne hb] at e
    exact (x b u e).stay (fun c v _ q => k c v q) (fun c q => by rw [upd_ne (ne_of_none q hn)]; exact q) fun c xs q => by rw [upd_ne (ne_of_none q hn)]; exact q
end

/-- what may be read as u: it is u, or a known u -/
def Rd (H : Hp) (a : Addr) (u : HO) : Prop := H a = some u ∨ ∃ o, H a = some (.frz o u)
theorem Rd.of {H : Hp} {a : Addr} {u : HO} (h : H a = some u) : Rd H a u := .inl h
theorem Rd.ok {P : Program} {w : World} {H : Hp} {h : Heap} {a : Addr} {u : HO} (r : Rd H a u) (x : HOk P w H h) : ObjOk P w H h a u := by
  rcases r with r | ⟨o, r⟩
  · exact x a u r
  · obtain ⟨_, q⟩ := x a _ r
    exact q
/-- what may be written -/
def Mut : Option HO → Prop
  | some (.lst _) => True
  | some (.dK _) => True
  | some (.dT _) => True
  | some (.set _ _) => True
  | some (.ins _ _ _) => True
  | some (.ext _) => True
  | _ => False
section
variable {P : Program} {w : World} {H : Hp} {h h' : Heap} {x e : Addr} {o' : HO}
/-- the object at e is changed: x itself, or the dict of the instance x -/
theorem HOk.write (ok : HOk P w H h) (mu : Mut (H x)) (he : e = x ∨ H e = some (.own x)) (k : ∀ b u, b ≠ e → h.get? b = some u → h'.get? b = some u) (heo : ∃ u, h'.get? e = some u)
    (new : ObjOk P w (upd H x o') h' x o') : HOk P w (upd H x o') h' := fun b u q => by
  have nown : ∀ c y, H c = some (.own y) → c ≠ x := fun c y r z => by subst z; rw [r] at mu; exact mu
  have ntup : ∀ c xs, H c = some (.tup xs) → c ≠ x := fun c xs r z => by subst z; rw [r] at mu; exact mu
  by_cases hb : b = x
  · subst hb; rw [upd_same] at q; cases q; exact new
  · rw [upd_ne hb] at q
    by_cases hbe : b = e
    · have q' : H b = some (.own x) := by
        rcases he with z | z
        · exact absurd (hbe.trans z) hb
        · rw [hbe]; exact z
      rw [q] at q'; cases q'
      obtain ⟨v, hv⟩ := heo
      exact ⟨v, by rw [hbe]; exact hv⟩
    · refine (ok b u q).stay (fun c v hc r => k c v ?_ r) (fun c r => by rw [upd_ne (nown c b r)]; exact r) fun c xs r => by rw [upd_ne (ntup c xs r)]; exact r
      rcases hc with rfl | hc
      · exact hbe
      · rintro rfl
        rcases he with z | z
        · exact nown c b hc z
        · rw [hc] at z; cases z; exact hb rfl
end

/-! ### kept unless tracked; of the frames at fs (the callers') the slots may change (an exception that passes writes there); of the records at ex (iterators) nothing is said -/
structure Un (fs ex : List Addr) (H H' : Hp) (h h' : Heap) : Prop where
  keep : ∀ b o, h.get? b = some o → H b = none → b ∉ fs → b ∉ ex → h'.get? b = some o
  slot : ∀ b o, h.get? b = some o → H b = none → b ∈ fs → b ∉ ex → ∃ sl, h'.get? b = some { o with slots := sl }
  free : ∀ b o, h.get? b = some o → H b = none → b ∉ ex → H' b = none
  there : ∀ b o, h.get? b = some o → b ∉ ex → ∃ o', h'.get? b = some o'
  tups : ∀ b xs, H b = some (.tup xs) → H' b = some (.tup xs)
  frzs : ∀ b o u, H b = some (.frz o u) → H' b = some (.frz o u)
  tbls : ∀ b ps, H b = some (.tbl ps) → ∃ more, H' b = some (.tbl (ps ++ more))
section
variable {fs fs' ex ex' : List Addr} {H H1 H2 : Hp} {h h1 h2 h' : Heap} {a x e : Addr} {o : HO}
theorem Un.any (u : Un fs ex H H1 h h1) {b : Addr} {ob : Obj} (q : h.get? b = some ob) (n : H b = none) (hx : b ∉ ex) : ∃ sl, h1.get? b = some { ob with slots := sl } := by
  by_cases hb : b ∈ fs
  · exact u.slot b ob q n hb hx
  · exact ⟨ob.slots, u.keep b ob q n hb hx⟩
theorem Un.trans (a : Un fs ex H H1 h h1) (b : Un fs ex H1 H2 h1 h2) : Un fs ex H H2 h h2 where
  keep := fun c ob q n hc hx => b.keep c ob (a.keep c ob q n hc hx) (a.free c ob q n hx) hc hx
  slot := fun c ob q n hc hx => by
    obtain ⟨sl, e1⟩ := a.slot c ob q n hc hx
    obtain ⟨sl', e2⟩ := b.slot c _ e1 (a.free c ob q n hx) hc hx
    exact ⟨sl', e2⟩
  free := fun c ob q n hx => by
    obtain ⟨o', e1⟩ := a.there c ob q hx
    exact b.free c o' e1 (a.free c ob q n hx) hx
  there := fun c ob q hx => by
    obtain ⟨o', e1⟩ := a.there c ob q hx
    exact b.there c o' e1 hx
  tups := fun c xs q => b.tups c xs (a.tups c xs q)
  frzs := fun c ob xs q => b.frzs c ob xs (a.frzs c ob xs q)
  tbls := fun c ps q => by
    obtain ⟨m1, e1⟩ := a.tbls c ps q
    obtain ⟨m2, e2⟩ := b.tbls c _ e1
    exact ⟨m1 ++ m2, by rw [e2, Array.append_assoc]⟩
theorem Un.kept (k : ∀ b u, h.get? b = some u → h'.get? b = some u) : Un fs ex H H h h' :=
  ⟨fun b ob q _ _ _ => k b ob q, fun b ob q _ _ _ => ⟨ob.slots, k b ob q⟩, fun _ _ _ n _ => n, fun b ob q _ => ⟨ob, k b ob q⟩, fun _ _ q => q, fun _ _ _ q => q, fun _ ps q => ⟨#[], by rw [q]; simp⟩⟩
theorem Un.refl : Un fs ex H H h h := Un.kept fun _ _ q => q
theorem Un.laid (k : ∀ b u, h.get? b = some u → h'.get? b = some u) (hp : h.objs.size ≤ a) (hn : H a = none) : Un fs ex H (upd H a o) h h' where
  keep := fun b u q _ _ _ => k b u q
  slot := fun b u q _ _ _ => ⟨u.slots, k b u q⟩
  free := fun b u q n _ => by rw [upd_ne (Nat.ne_of_lt (Nat.lt_of_lt_of_le (Heap.lt_size q) hp))]; exact n
  there := fun b u q _ => ⟨u, k b u q⟩
  tups := fun b xs q => by rw [upd_ne (ne_of_none q hn)]; exact q
  frzs := fun b u xs q => by rw [upd_ne (ne_of_none q hn)]; exact q
  tbls := fun b ps q => ⟨#[], by rw [upd_ne (ne_of_none q hn), q]; simp⟩
theorem Un.write (mu : Mut (H x)) (he : e = x ∨ H e = some (.own x)) (k : ∀ b u, b ≠ e → h.get? b = some u → h'.get? b = some u) (heo : ∃ u, h'.get? e = some u) : Un fs ex H (upd H x o) h h' := by
  have hx : ∀ b, H b = none → b ≠ x := fun b n z => by subst z; rw [n] at mu; exact mu
  have hb : ∀ b, H b = none → b ≠ e := fun b n z => by
    subst z
    rcases he with r | r
    · exact hx b n r
    · rw [n] at r; cases r
  have hm : ∀ b u, H b = some u → ¬ Mut (some u) → b ≠ x := fun b u q nm z => by subst z; rw [q] at mu; exact nm mu
  refine ⟨fun b u q n _ _ => k b u (hb b n) q, fun b u q n _ _ => ⟨u.slots, k b u (hb b n) q⟩, fun b u q n _ => by rw [upd_ne (hx b n)]; exact n, fun b u q _ => ?_,
    fun b xs q => by rw [upd_ne (hm b _ q fun z => z)]; exact q, fun b u xs q => by rw [upd_ne (hm b _ q fun z => z)]; exact q, fun b ps q => ⟨#[], by rw [upd_ne (hm b _ q fun z => z), q]; simp⟩⟩
  by_cases hbe : b = e
  · subst hbe; exact heo
  · exact ⟨u, k b u hbe q⟩
theorem Un.mono (u : Un fs ex H H1 h h1) (hs : ∀ b ∈ fs, b ∈ fs') (hx : ∀ b ∈ ex, b ∈ ex') : Un fs' ex' H H1 h h1 :=
  ⟨fun b ob q n hb he => u.keep b ob q n (fun z => hb (hs b z)) fun z => he (hx b z), fun _ _ q n _ he => u.any q n fun z => he (hx _ z), fun b ob q n he => u.free b ob q n fun z => he (hx b z), fun b ob q he => u.there b ob q fun z => he (hx b z), u.tups, u.frzs, u.tbls⟩
end

/-! ### the heap without what is tracked -/
def trk (h : Heap) (H : Hp) : List Addr := (List.range h.objs.size).filter fun a => (H a).isSome
def hidT (h : Heap) (H : Hp) : Heap := PySem.W.hideAll h (trk h H)
theorem hidT_size (h : Heap) (H : Hp) : (hidT h H).objs.size = h.objs.size := PySem.W.hideAll_size _ _
theorem hidT_get {h : Heap} {H : Hp} {b : Addr} {o : Obj} (e : h.get? b = some o) (n : H b = none) : (hidT h H).get? b = some o :=
  PySem.W.hideAll_get _ e fun hm => by
    have q : (H b).isSome = true := (List.mem_filter.mp hm).2
    rw [n] at q; simp at q
theorem of_hidT {h : Heap} {H : Hp} {b : Addr} {o : Obj} (e : (hidT h H).get? b = some o) : h.get? b = some o ∧ H b = none := by
  have e' : h.get? b = some o := PySem.W.of_hideAll (trk h H) e
  refine ⟨e', ?_⟩
  cases q : H b with
  | none => rfl
  | some x =>
    have hm : b ∈ trk h H := List.mem_filter.mpr ⟨List.mem_range.mpr (Heap.lt_size e'), by simp [q]⟩
    have z : (hidT h H).get? b = none := PySem.W.hideAll_none (trk h H) hm
    rw [z] at e; cases e

/-! ### OpenK's ledger, filled with every new object but one -/
def allNews (g h : Heap) (L : Addr) : List (Addr × Obj) := (List.range h.objs.size).filterMap fun a => if a = L ∨ (g.get? a).isSome = true then none else (h.get? a).map fun o => (a, o)
def rest (g h : Heap) (L d : Addr) : List (Addr × Obj) := (allNews g h L).filter fun p => decide (p.1 ≠ d)
end L2

namespace L2
open PySem PySem.Spec PyProof.Rows

/-- the module's facts, over the base: the heap at the law's entry without what is tracked there -/
structure Mod (K : PySem.W.Frag) (mg : Str → Option Value) (base : Heap) : Prop where
  kin : K.In base
  glob : base.Ns mainGlobals mg
  blt : ∃ mb, base.Ns builtinsNs mb ∧ ∀ x : Str, x ≠ "__name__" → mb x = bootBuiltins x
  nolimit : base.NoLimit

/-- the context: a def's body (or a comprehension's block) running. base: fixed through the whole law; s₀, H₀: the entry; outer: the frames whose slots others may change (a def's callers); stack: all frames that run;
   ex: iterators that were made ahead of the entry and are walked here (a comprehension's); fn: the names whose cells were made at the entry (a def: all; a comprehension's block: its own); calm: not within an except suite; pn: pins that every state bears; xe: what is wanted of an exception that leaves the code -/
structure Cx where
  prog : Program
  w : World
  K : PySem.W.Frag
  mg : Str → Option Value
  base : Heap
  A : Around
  N : List Str
  s₀ : Shared
  H₀ : Hp
  env : Env
  outer : List Env
  stack : List Env
  ex : List Addr
  fn : Str → Bool
  calm : Bool
  pn : List (Addr × Obj)
  tp : List (Addr × List V)
  xe : Value → Shared → Prop
/-- the callers' frames -/
def frs (l : List Env) : List Addr := l.filterMap (·.frame)
abbrev Cx.fs (X : Cx) : List Addr := frs X.outer

def Vis (sc : Scope) (x : Str) : Prop := sc.names.lookup x = some .local ∨ sc.names.lookup x = some .cell ∨ sc.names.lookup x = some .free
def Loc (sc : Scope) (x : Str) : Prop := sc.names.lookup x = some .local ∨ sc.names.lookup x = some .cell
def Look (env : Env) (h : Heap) (m : Str → Option Value) (x : Str) (u : Value) : Prop :=
  (env.kindOf x = some .local ∧ m x = some u) ∨ ((env.kindOf x = some .cell ∨ env.kindOf x = some .free) ∧ ∃ c, env.cells.lookup x = some c ∧ h.IsCell c (some u))

structure Cx.Ok (X : Cx) : Prop where
  mod : Mod X.K X.mg X.base
  kind : X.env.scope.kind = .function
  glob : X.env.globals = mainGlobals
  blt : X.env.builtins = builtinsNs
  above : X.s₀.heap.objs.size ≤ X.env.locals
  inj : ∀ x y c, X.env.cells.lookup x = some c → X.env.cells.lookup y = some c → x = y
  has : ∀ x, (X.env.kindOf x = some .cell ∨ X.env.kindOf x = some .free) → ∃ c, X.env.cells.lookup x = some c
  cab : ∀ x c, X.fn x = true → X.env.cells.lookup x = some c → X.s₀.heap.objs.size ≤ c
  hd : X.calm = true → X.A.handled = none
  frames : X.A.frames = some X.stack
  stk : X.stack = X.outer ∨ (X.stack = X.env :: X.outer ∧ X.env.frame = some X.env.locals)
  exf : ∀ b ∈ X.ex, b ≠ X.env.locals ∧ ∀ x c, X.env.cells.lookup x = some c → c ≠ b
  bs : ∀ b o, X.base.get? b = some o → X.s₀.heap.get? b = some o ∧ X.H₀ b = none
  bsz : X.base.objs.size ≤ X.s₀.heap.objs.size
  noex : ∀ b o, X.base.get? b = some o → b ∉ X.ex
  exfs : ∀ b ∈ X.ex, b ∉ X.fs
  funs : X.s₀.heap.FunFrames X.base X.outer
  frf : ∀ b ∈ X.fs, X.H₀ b = none

/-- no exception is handled, or a tracked one with no context -/
def Hnd (A : Around) (H : Hp) : Prop := A.handled = none ∨ ∃ x o u vs, A.handled = some (.ref x) ∧ H x = some (.frz o u) ∧ o.data = .fields vs ∧ vs[2]? = some .none
theorem Hnd.mono {A : Around} {H H' : Hp} (h : Hnd A H) (f : ∀ b o u, H b = some (.frz o u) → H' b = some (.frz o u)) : Hnd A H' := by
  rcases h with z | ⟨x, o, u, vs, a, b, c⟩
  · exact .inl z
  · exact .inr ⟨x, o, u, vs, a, f _ _ _ b, c⟩
theorem Hnd.heap {P : Program} {w : World} {A : Around} {H : Hp} {h : Heap} (q : Hnd A H) (hok : HOk P w H h) : HndS A h := by
  rcases q with z | ⟨x, o, u, vs, a, b, c⟩
  · exact .inl z
  · exact .inr ⟨x, o, vs, a, (hok x _ b).1, c⟩

structure Inv (X : Cx) (pins : List (Addr × Obj)) (σ : List (Option V)) (H : Hp) (s : Shared) : Prop where
  ok : X.Ok
  os : s.os = X.s₀.os
  bare : AllBare s.gens
  base : Un X.fs X.ex X.H₀ H X.s₀.heap s.heap
  loc : ∃ m, s.heap.Ns X.env.locals m ∧ ∀ (i : Nat) (x : Str) (v : V), X.N[i]? = some x → σ[i]? = some (some v) → Vis X.env.scope x → ∃ u, RelV v u ∧ Look X.env s.heap m x u
  cell : ∀ x c, X.env.cells.lookup x = some c → ∃ v, s.heap.IsCell c v
  free : H X.env.locals = none
  freeC : ∀ x c, X.env.cells.lookup x = some c → H c = none
  pin : ∀ p ∈ X.pn ++ pins, s.heap.get? p.1 = some p.2 ∧ H p.1 = none ∧ p.1 ≠ X.env.locals ∧ p.1 ∉ X.fs ∧ ∀ v, p.2.data ≠ .cell v
  hok : HOk X.prog X.w H s.heap
  len : σ.length = X.N.length
  hnd : Hnd X.A H
  tup : ∀ p ∈ X.tp, H p.1 = some (.tup p.2)

section
variable {X : Cx} {pins : List (Addr × Obj)} {σ : List (Option V)} {H H' : Hp} {s : Shared} {h' : Heap}

theorem Cx.Ok.nofr (ok : X.Ok) {b : Addr} {o : Obj} (e : X.base.get? b = some o) : b ∉ X.fs := fun hb => by
  have := (ok.funs.mem hb).1
  rw [e] at this; cases this
theorem Inv.bs (I : Inv X pins σ H s) : ∀ b o, X.base.get? b = some o → s.heap.get? b = some o ∧ H b = none := fun b o e =>
  ⟨I.base.keep b o (I.ok.bs b o e).1 (I.ok.bs b o e).2 (I.ok.nofr e) (I.ok.noex b o e), I.base.free b o (I.ok.bs b o e).1 (I.ok.bs b o e).2 (I.ok.noex b o e)⟩
theorem Inv.bk (I : Inv X pins σ H s) : ∀ b o, X.base.get? b = some o → s.heap.get? b = some o := fun b o e => (I.bs b o e).1
theorem Inv.mod (I : Inv X pins σ H s) : Mod X.K X.mg X.base := I.ok.mod
theorem Inv.kIn (I : Inv X pins σ H s) : X.K.In s.heap := I.ok.mod.kin.keeps I.bk
theorem Inv.nolimit (I : Inv X pins σ H s) : s.heap.NoLimit := I.ok.mod.nolimit.keeps I.bk
/-- the frame over the base: for OpenK's rules (K.In X.base is I.mod.kin) -/
theorem Inv.fr (I : Inv X pins σ H s) : ∃ m, Fr X.base X.env.locals s.heap m :=
  let ⟨m, hn, _⟩ := I.loc
  ⟨m, hn, I.bk, Nat.le_trans I.ok.bsz I.ok.above⟩
theorem Inv.lt (I : Inv X pins σ H s) : X.env.locals < s.heap.objs.size := let ⟨_, hn, _⟩ := I.loc; hn.lt
theorem Inv.sz (I : Inv X pins σ H s) : X.s₀.heap.objs.size ≤ s.heap.objs.size := Nat.le_trans I.ok.above (Nat.le_of_lt I.lt)
theorem Inv.nofs (I : Inv X pins σ H s) {a : Addr} (h : s.heap.objs.size ≤ a) : a ∉ X.fs := fun hb => by
  obtain ⟨_, o, ho, _⟩ := I.ok.funs.mem hb
  exact absurd (Nat.lt_of_lt_of_le (Heap.lt_size ho) (Nat.le_trans I.sz h)) (Nat.lt_irrefl _)
theorem Inv.cne (I : Inv X pins σ H s) : ∀ x c, X.env.cells.lookup x = some c → c ≠ X.env.locals := fun x c e z => by
  obtain ⟨v, o, ho, hd⟩ := I.cell x c e
  obtain ⟨m, ⟨o', es, ep, ho', hd', _⟩, _⟩ := I.loc
  rw [z, ho'] at ho; cases ho; rw [hd'] at hd; cases hd
theorem Inv.funs (I : Inv X pins σ H s) : s.heap.FunFrames X.base X.outer := by
  have all : ∀ (l : List Env), (∀ b ∈ frs l, b ∈ X.fs) → X.s₀.heap.FunFrames X.base l → s.heap.FunFrames X.base l := by
    intro l
    induction l with
    | nil => intro _ _; trivial
    | cons env r ih =>
      intro hs hl
      obtain ⟨hk, ⟨L, o, hf, hn, ho, hd⟩, hr⟩ := hl
      have hL : L ∈ X.fs := hs L (by unfold frs; rw [List.filterMap_cons, hf]; exact List.mem_cons_self)
      obtain ⟨sl, e⟩ := I.base.slot L o ho (I.ok.frf L hL) hL fun z => I.ok.exfs L z hL
      exact ⟨hk, ⟨L, _, hf, hn, e, hd⟩, ih (fun b hb => hs b (by unfold frs; rw [List.filterMap_cons, hf]; exact List.mem_cons_of_mem _ hb)) hr⟩
  exact all X.outer (fun _ hb => hb) I.ok.funs

/-- the frames that run, for a call -/
theorem Inv.stack (I : Inv X pins σ H s) : s.heap.FunFrames X.base X.stack := by
  rcases I.ok.stk with e | ⟨e, hf⟩
  · rw [e]; exact I.funs
  · rw [e]
    obtain ⟨m, hn, _⟩ := I.loc
    refine .cons (by rw [I.ok.kind]; decide) hf hn ?_ I.funs
    exact Heap.get?_none_of_le (Nat.le_trans I.ok.bsz I.ok.above)
theorem Inv.stkSub (I : Inv X pins σ H s) : ∀ b ∈ frs X.stack, b ∈ X.env.locals :: X.fs := fun b hb => by
  rcases I.ok.stk with e | ⟨e, hf⟩
  · rw [e] at hb; exact List.mem_cons_of_mem _ hb
  · rw [e] at hb
    unfold frs at hb
    rw [List.filterMap_cons, hf] at hb
    exact hb
theorem Inv.stkFree (I : Inv X pins σ H s) : ∀ b ∈ frs X.stack, H b = none := fun b hb => by
  rcases List.mem_cons.mp (I.stkSub b hb) with e | hb
  · rw [e]; exact I.free
  · obtain ⟨_, o, ho, _⟩ := I.ok.funs.mem hb
    exact I.base.free b o ho (I.ok.frf b hb) fun z => I.ok.exfs b z hb

/-- THE STEP: the untracked objects but the frame and the records at ch are kept (the callers' frames up to slots), the frame's map is kept, the new abstract heap is held -/
theorem Inv.step {g' : Array GenState} {t' : Nat} {d' : Drawn} {ch : List Addr} (I : Inv X pins σ H s)
    (hch : ∀ b ∈ ch, (b ∈ X.ex ∨ X.s₀.heap.objs.size ≤ b) ∧ b ≠ X.env.locals ∧ (∀ x c, X.env.cells.lookup x = some c → c ≠ b) ∧ ∀ p ∈ X.pn ++ pins, p.1 ≠ b)
    (keep : ∀ b o, b ≠ X.env.locals → b ∉ X.fs → b ∉ ch → s.heap.get? b = some o → H b = none → h'.get? b = some o)
    (slot : ∀ b o, b ≠ X.env.locals → b ∈ X.fs → b ∉ ch → s.heap.get? b = some o → H b = none → ∃ sl, h'.get? b = some { o with slots := sl }) (free : ∀ b o, b ∉ ch → s.heap.get? b = some o → H b = none → H' b = none)
    (there : ∀ b o, b ∉ ch → s.heap.get? b = some o → ∃ o', h'.get? b = some o')
    (tups : ∀ b xs, H b = some (.tup xs) → H' b = some (.tup xs)) (frzs : ∀ b o u, H b = some (.frz o u) → H' b = some (.frz o u)) (tbls : ∀ b ps, H b = some (.tbl ps) → ∃ more, H' b = some (.tbl (ps ++ more)))
    (ns : ∀ m, s.heap.Ns X.env.locals m → h'.Ns X.env.locals m) (hok : HOk X.prog X.w H' h') (hg : AllBare g') :
    Inv X pins σ H' { s with heap := h', gens := g', drawn := d', toks := t' } := by
  have neL : ∀ b o, X.s₀.heap.get? b = some o → b ≠ X.env.locals := fun b o e => Nat.ne_of_lt (Nat.lt_of_lt_of_le (Heap.lt_size e) I.ok.above)
  have neC : ∀ b o, X.s₀.heap.get? b = some o → b ∉ X.ex → b ∉ ch := fun b o e hx hb => by
    rcases (hch b hb).1 with z | z
    · exact hx z
    · exact absurd (Nat.lt_of_lt_of_le (Heap.lt_size e) z) (Nat.lt_irrefl _)
  have cellK : ∀ x c, X.env.cells.lookup x = some c → ∀ v, s.heap.IsCell c v → h'.IsCell c v := fun x c e v ⟨o, ho, hd⟩ => by
    have nch : c ∉ ch := fun z => (hch c z).2.2.1 x c e rfl
    by_cases hc : c ∈ X.fs
    · obtain ⟨sl, q⟩ := slot c o (I.cne x c e) hc nch ho (I.freeC x c e)
      exact ⟨_, q, hd⟩
    · exact ⟨o, keep c o (I.cne x c e) hc nch ho (I.freeC x c e), hd⟩
  refine ⟨I.ok, I.os, hg, ⟨fun b o e n hb hx => ?_, fun b o e n hb hx => ?_, fun b o e n hx => ?_, fun b o e hx => ?_, fun b xs e => tups b xs (I.base.tups b xs e), fun b o xs e => frzs b o xs (I.base.frzs b o xs e), fun b ps e => ?_⟩, ?_, fun x c e => ?_, ?_, fun x c e => ?_, fun p hp => ?_, hok, I.len, I.hnd.mono frzs, fun p hp => tups _ _ (I.tup p hp)⟩
  · exact keep b o (neL b o e) hb (neC b o e hx) (I.base.keep b o e n hb hx) (I.base.free b o e n hx)
  · obtain ⟨sl, e1⟩ := I.base.slot b o e n hb hx
    obtain ⟨sl', e2⟩ := slot b _ (neL b o e) hb (neC b o e hx) e1 (I.base.free b o e n hx)
    exact ⟨sl', e2⟩
  · obtain ⟨o', e1⟩ := I.base.there b o e hx
    exact free b o' (neC b o e hx) e1 (I.base.free b o e n hx)
  · obtain ⟨o', e1⟩ := I.base.there b o e hx
    exact there b o' (neC b o e hx) e1
  · obtain ⟨m1, e1⟩ := I.base.tbls b ps e
    obtain ⟨m2, e2⟩ := tbls b _ e1
    exact ⟨m1 ++ m2, by rw [e2, Array.append_assoc]⟩
  · obtain ⟨m, hn, hl⟩ := I.loc
    refine ⟨m, ns m hn, fun i x v e1 e2 e3 => ?_⟩
    obtain ⟨u, r, l⟩ := hl i x v e1 e2 e3
    refine ⟨u, r, ?_⟩
    rcases l with l | ⟨k, c, e, z⟩
    · exact .inl l
    · exact .inr ⟨k, c, e, cellK x c e _ z⟩
  · obtain ⟨v, z⟩ := I.cell x c e
    exact ⟨v, cellK x c e v z⟩
  · obtain ⟨m, ⟨o, _, _, ho, _⟩, _⟩ := I.loc
    exact free _ o (fun z => (hch _ z).2.1 rfl) ho I.free
  · obtain ⟨v, o, ho, hd⟩ := I.cell x c e
    exact free c o (fun z => (hch c z).2.2.1 x c e rfl) ho (I.freeC x c e)
  · obtain ⟨e, n, ne, nf, d⟩ := I.pin p hp
    have nch : p.1 ∉ ch := fun z => (hch p.1 z).2.2.2 p hp rfl
    exact ⟨keep p.1 p.2 ne nf nch e n, free p.1 p.2 nch e n, ne, nf, d⟩
/-- .. where the frame's own object is kept too -/
theorem Inv.un {t' : Nat} (I : Inv X pins σ H s) (u : Un X.fs [] H H' s.heap h') (hok : HOk X.prog X.w H' h') : Inv X pins σ H' { s with heap := h', toks := t' } := by
  obtain ⟨m, ⟨o, es, ep, ho, r⟩, _⟩ := id I.loc
  obtain ⟨sl, hL⟩ := u.any ho I.free (by simp)
  exact I.step (g' := s.gens) (d' := s.drawn) (ch := []) (fun _ z => nomatch z) (fun b o _ hb _ e n => u.keep b o e n hb (by simp)) (fun b o _ hb _ e n => u.slot b o e n hb (by simp)) (fun b o _ e n => u.free b o e n (by simp)) (fun b o _ e => u.there b o e (by simp)) u.tups u.frzs u.tbls (fun m' hm => by
    obtain ⟨o', es', ep', ho', r'⟩ := hm
    rw [ho] at ho'; cases ho'
    exact ⟨_, es', ep', hL, r'⟩) hok I.bare
/-- behind a call (or a comprehension's block): the slots of this frame may have changed too, the records at ch may have turned -/
theorem Inv.call {g' : Array GenState} {t' : Nat} {d' : Drawn} {ch : List Addr} (I : Inv X pins σ H s) (u : Un (frs X.stack) ch H H' s.heap h') (hok : HOk X.prog X.w H' h') (hg : AllBare g')
    (hch : ∀ b ∈ ch, (b ∈ X.ex ∨ X.s₀.heap.objs.size ≤ b) ∧ b ≠ X.env.locals ∧ (∀ x c, X.env.cells.lookup x = some c → c ≠ b) ∧ ∀ p ∈ X.pn ++ pins, p.1 ≠ b) :
    Inv X pins σ H' { s with heap := h', gens := g', drawn := d', toks := t' } := by
  obtain ⟨m, ⟨o, es, ep, ho, r⟩, _⟩ := id I.loc
  obtain ⟨sl, hL⟩ := u.any ho I.free fun z => (hch _ z).2.1 rfl
  exact I.step (ch := ch) hch (fun b o hL hb hc e n => u.keep b o e n (fun z => (List.mem_cons.mp (I.stkSub b z)).elim hL hb) hc) (fun b o _ _ hc e n => u.any e n hc) (fun b o hc e n => u.free b o e n hc) (fun b o hc e => u.there b o e hc) u.tups u.frzs u.tbls (fun m' hm => by
    obtain ⟨o', es', ep', ho', r'⟩ := hm
    rw [ho] at ho'; cases ho'
    exact ⟨_, es', ep', hL, r'⟩) hok hg
/-- an untracked record of ours (an iterator) has turned -/
theorem Inv.turned {t' : Nat} {it : Addr} (I : Inv X pins σ H s) (k : ∀ b o, b ≠ it → s.heap.get? b = some o → h'.get? b = some o) (hn : H it = none) (hL : it ≠ X.env.locals)
    (h1 : it ∈ X.ex ∨ X.s₀.heap.objs.size ≤ it) (h2 : ∀ x c, X.env.cells.lookup x = some c → c ≠ it) (h3 : ∀ p ∈ X.pn ++ pins, p.1 ≠ it) : Inv X pins σ H { s with heap := h', toks := t' } := by
  have nit : ∀ b u, H b = some u → b ≠ it := fun b u e z => by rw [z, hn] at e; cases e
  refine I.step (g' := s.gens) (d' := s.drawn) (ch := [it]) (fun b hb => ?_) (fun b o _ _ hc e _ => k b o (fun z => hc (by simp [z])) e) (fun b o _ _ hc e _ => ⟨o.slots, k b o (fun z => hc (by simp [z])) e⟩) (fun _ _ _ _ n => n)
    (fun b o hc e => ⟨o, k b o (fun z => hc (by simp [z])) e⟩) (fun _ _ e => e) (fun _ _ _ e => e) (fun b ps e => ⟨#[], by rw [e]; simp⟩) (fun m hm => ?_) (fun b u e => ?_) I.bare
  · have e : b = it := by simpa using hb
    subst e
    exact ⟨h1, hL, h2, h3⟩
  · obtain ⟨o, es, ep, ho, r⟩ := hm
    exact ⟨o, es, ep, k _ o (Ne.symm hL) ho, r⟩
  · refine (I.hok b u e).stay (fun c v hc q => k c v ?_ q) (fun _ q => q) fun _ _ q => q
    rcases hc with z | z
    · rw [z]; exact nit b u e
    · exact nit c _ z
theorem Inv.tok (I : Inv X pins σ H s) (t : Nat) : Inv X pins σ H { s with toks := t } := I.un (h' := s.heap) (t' := t) Un.refl I.hok
/-- all objects kept -/
theorem Inv.kept {t' : Nat} (I : Inv X pins σ H s) (k : ∀ b u, s.heap.get? b = some u → h'.get? b = some u) : Inv X pins σ H { s with heap := h', toks := t' } := I.un (Un.kept k) (I.hok.kept k)
/-- a new object laid and tracked -/
theorem Inv.laid {a : Addr} {o : HO} {t' : Nat} (I : Inv X pins σ H s) (k : ∀ b u, s.heap.get? b = some u → h'.get? b = some u) (hp : s.heap.objs.size ≤ a) (new : ObjOk X.prog X.w (upd H a o) h' a o) :
    Inv X pins σ (upd H a o) { s with heap := h', toks := t' } := I.un (Un.laid k hp (I.hok.fresh hp)) (I.hok.laid k hp new)
/-- an object written -/
theorem Inv.write {x e : Addr} {o : HO} {t' : Nat} (I : Inv X pins σ H s) (mu : Mut (H x)) (he : e = x ∨ H e = some (.own x)) (k : ∀ b u, b ≠ e → s.heap.get? b = some u → h'.get? b = some u) (heo : ∃ u, h'.get? e = some u)
    (new : ObjOk X.prog X.w (upd H x o) h' x o) : Inv X pins σ (upd H x o) { s with heap := h', toks := t' } := I.un (Un.write mu he k heo) (I.hok.write mu he k heo new)
/-- forgetting slots, pins -/
theorem Inv.weak {σ' : List (Option V)} (I : Inv X pins σ H s) (hl : σ'.length = σ.length) (w : ∀ (i : Nat) v, σ'[i]? = some (some v) → σ[i]? = some (some v)) : Inv X pins σ' H s :=
  ⟨I.ok, I.os, I.bare, I.base, let ⟨m, hn, hl'⟩ := I.loc; ⟨m, hn, fun i x v e1 e2 e3 => hl' i x v e1 (w i v e2) e3⟩, I.cell, I.free, I.freeC, I.pin, I.hok, hl.trans I.len, I.hnd, I.tup⟩
theorem Inv.pins_of {pins' : List (Addr × Obj)} (I : Inv X pins σ H s) (h : ∀ p ∈ pins', s.heap.get? p.1 = some p.2 ∧ H p.1 = none ∧ p.1 ≠ X.env.locals ∧ p.1 ∉ X.fs ∧ ∀ v, p.2.data ≠ .cell v) : Inv X pins' σ H s :=
  ⟨I.ok, I.os, I.bare, I.base, I.loc, I.cell, I.free, I.freeC, fun p hp => (List.mem_append.mp hp).elim (fun z => I.pin p (List.mem_append_left _ z)) (h p), I.hok, I.len, I.hnd, I.tup⟩

theorem nodup_ix {N : List Str} (hN : N.Nodup) {i j : Nat} {x : Str} (a : N[i]? = some x) (b : N[j]? = some x) : i = j := by
  obtain ⟨h1, e1⟩ := List.getElem?_eq_some_iff.mp a
  obtain ⟨h2, e2⟩ := List.getElem?_eq_some_iff.mp b
  exact (List.getElem_inj hN).mp (e1.trans e2.symm)

/-- a name is stored; what changed -/
theorem store_ok2 {M : Model} {A : Around} {E : Value → Shared → Prop} {i : Nat} {x : Str} {v : V} {u : Value} {Q : Unit → Shared → Prop} (I : Inv X pins σ H s) (hN : X.N.Nodup) (hi : X.N[i]? = some x) (hx : Loc X.env.scope x) (r : RelV v u)
    (h : ∀ s', Inv X pins (σ.set i (some v)) H s' → (∃ a, Heap.SameBut a s.heap s'.heap ∧ (a = X.env.locals ∨ X.env.cells.lookup x = some a)) → Q () s') (hf : X.fn x = true ∨ X.env.scope.names.lookup x = some .local := by first | exact .inl rfl | exact .inr rfl | assumption) : wpAny M A (storeName X.env x u) Q E s := by
  obtain ⟨m, hn, hl⟩ := id I.loc
  have hcls : (X.env.scope.kind == .class || (X.env.scope.kind == .module && X.env.locals != X.env.globals)) = false := by rw [I.ok.kind]; rfl
  have hiσ : i < σ.length := by rw [I.len]; exact (List.getElem?_eq_some_iff.mp hi).1
  have cne := I.cne
  have tracked : ∀ {a : Addr} {h' : Heap}, (∃ o, s.heap.get? a = some o ∧ H a = none) → Heap.SameBut a s.heap h' → HOk X.prog X.w H h' := fun {a h'} ha hs b ob e => by
    obtain ⟨_, _, hfree⟩ := ha
    refine (I.hok b ob e).stay (fun c w' hc q => (hs.2 c ?_).trans q) (fun _ q => q) fun _ _ q => q
    rintro rfl
    rcases hc with rfl | hc
    · rw [hfree] at e; cases e
    · rw [hfree] at hc; cases hc
  rcases hx with hk | hk
  · refine wpAny_storeName_local hk hn (fun h' hn' hs => ?_) hcls
    obtain ⟨oL, _, _, hoL, _⟩ := id hn
    refine h _ ⟨I.ok, I.os, I.bare, ⟨fun b o e n hb hx => ?_, fun b o e n hb hx => ?_, I.base.free, fun b o e hx => ?_, I.base.tups, I.base.frzs, I.base.tbls⟩, ⟨_, hn', fun j y v' e1 e2 e3 => ?_⟩, fun y c e => ?_, I.free, I.freeC, fun p hp => ?_, tracked ⟨oL, hoL, I.free⟩ hs, by simpa using I.len, I.hnd, I.tup⟩ ⟨_, hs, .inl rfl⟩
    · exact (hs.2 b (Nat.ne_of_lt (Nat.lt_of_lt_of_le (Heap.lt_size e) I.ok.above))).trans (I.base.keep b o e n hb hx)
    · obtain ⟨sl, e1⟩ := I.base.slot b o e n hb hx
      exact ⟨sl, (hs.2 b (Nat.ne_of_lt (Nat.lt_of_lt_of_le (Heap.lt_size e) I.ok.above))).trans e1⟩
    · obtain ⟨o', e1⟩ := I.base.there b o e hx
      exact ⟨o', (hs.2 b (Nat.ne_of_lt (Nat.lt_of_lt_of_le (Heap.lt_size e) I.ok.above))).trans e1⟩
    · by_cases hj : j = i
      · subst hj
        rw [hi] at e1; cases e1
        rw [List.getElem?_set_self hiσ] at e2
        cases e2
        exact ⟨u, r, .inl ⟨hk, by simp⟩⟩
      · rw [List.getElem?_set_ne (Ne.symm hj)] at e2
        obtain ⟨u', r', q⟩ := hl j y v' e1 e2 e3
        refine ⟨u', r', ?_⟩
        rcases q with ⟨k, e⟩ | ⟨k, c, e, z⟩
        · refine .inl ⟨k, ?_⟩
          have : y ≠ x := fun e => hj (nodup_ix hN e1 (e ▸ hi))
          simp [this, e]
        · exact .inr ⟨k, c, e, z.sameBut hs (cne y c e)⟩
    · obtain ⟨w', z⟩ := I.cell y c e
      exact ⟨w', z.sameBut hs (cne y c e)⟩
    · obtain ⟨e, n, ne, nf, d⟩ := I.pin p hp
      exact ⟨(hs.2 p.1 ne).trans e, n, ne, nf, d⟩
  · have hfn : X.fn x = true := by
      rcases hf with z | z
      · exact z
      · rw [z] at hk; cases hk
    obtain ⟨c, hc⟩ := I.ok.has x (.inl hk)
    obtain ⟨w', z⟩ := I.cell x c hc
    refine wpAny_storeName_cell I.ok.kind hk hc z (fun h' hc' hs => ?_)
    obtain ⟨oc, hoc, hocd⟩ := id z
    refine h { s with heap := h' } ⟨I.ok, I.os, I.bare, ⟨fun b o e n hb hx => ?_, fun b o e n hb hx => ?_, I.base.free, fun b o e hx => ?_, I.base.tups, I.base.frzs, I.base.tbls⟩, ⟨m, hn.sameBut hs (Ne.symm (cne x c hc)), fun j y v' e1 e2 e3 => ?_⟩, fun y c' e => ?_, I.free, I.freeC, fun p hp => ?_, tracked ⟨oc, hoc, I.freeC x c hc⟩ hs, by simpa using I.len, I.hnd, I.tup⟩ ⟨c, hs, .inr hc⟩
    · exact (hs.2 b (Nat.ne_of_lt (Nat.lt_of_lt_of_le (Heap.lt_size e) (I.ok.cab x c hfn hc)))).trans (I.base.keep b o e n hb hx)
    · obtain ⟨sl, e1⟩ := I.base.slot b o e n hb hx
      exact ⟨sl, (hs.2 b (Nat.ne_of_lt (Nat.lt_of_lt_of_le (Heap.lt_size e) (I.ok.cab x c hfn hc)))).trans e1⟩
    · obtain ⟨o', e1⟩ := I.base.there b o e hx
      exact ⟨o', (hs.2 b (Nat.ne_of_lt (Nat.lt_of_lt_of_le (Heap.lt_size e) (I.ok.cab x c hfn hc)))).trans e1⟩
    · by_cases hj : j = i
      · subst hj
        rw [hi] at e1; cases e1
        rw [List.getElem?_set_self hiσ] at e2
        cases e2
        exact ⟨u, r, .inr ⟨.inl hk, c, hc, hc'⟩⟩
      · rw [List.getElem?_set_ne (Ne.symm hj)] at e2
        obtain ⟨u', r', q⟩ := hl j y v' e1 e2 e3
        refine ⟨u', r', ?_⟩
        rcases q with q | ⟨k, c', e, z'⟩
        · exact .inl q
        · refine .inr ⟨k, c', e, z'.sameBut hs ?_⟩
          rintro rfl
          exact hj (nodup_ix hN e1 (I.ok.inj _ _ _ e hc ▸ hi))
    · by_cases hcc : c' = c
      · subst hcc; exact ⟨_, hc'⟩
      · obtain ⟨w2, z2⟩ := I.cell y c' e
        exact ⟨w2, z2.sameBut hs hcc⟩
    · obtain ⟨e, n, ne, nf, d⟩ := I.pin p hp
      refine ⟨(hs.2 p.1 ?_).trans e, n, ne, nf, d⟩
      intro q
      rw [q, hoc] at e
      have q' : oc = p.2 := Option.some.inj e
      exact d w' (by rw [← q']; exact hocd)
theorem store_ok {M : Model} {A : Around} {E : Value → Shared → Prop} {i : Nat} {x : Str} {v : V} {u : Value} {Q : Unit → Shared → Prop} (I : Inv X pins σ H s) (hN : X.N.Nodup) (hi : X.N[i]? = some x) (hx : Loc X.env.scope x) (r : RelV v u)
    (h : ∀ s', Inv X pins (σ.set i (some v)) H s' → Q () s') (hf : X.fn x = true ∨ X.env.scope.names.lookup x = some .local := by first | exact .inl rfl | exact .inr rfl | assumption) : wpAny M A (storeName X.env x u) Q E s :=
  store_ok2 I hN hi hx r (fun s' I' _ => h s' I') hf
/-- behind a call or a block, the state as it is -/
theorem Inv.call' {s' : Shared} {ch : List Addr} (I : Inv X pins σ H s) (ho : s'.os = s.os) (u : Un (frs X.stack) ch H H' s.heap s'.heap) (hok : HOk X.prog X.w H' s'.heap) (hg : AllBare s'.gens)
    (hch : ∀ b ∈ ch, (b ∈ X.ex ∨ X.s₀.heap.objs.size ≤ b) ∧ b ≠ X.env.locals ∧ (∀ x c, X.env.cells.lookup x = some c → c ≠ b) ∧ ∀ p ∈ X.pn ++ pins, p.1 ≠ b) : Inv X pins σ H' s' := by
  obtain ⟨h', g', d', t', o'⟩ := s'
  have e : o' = s.os := ho
  subst e
  exact I.call (g' := g') (t' := t') (d' := d') u hok hg hch
end

/-! ### the judgements -/
/-- an exception: its class, its own dict's address (where it has one), the abstract heap behind it -/
abbrev XK := Value → Option Addr → Hp → Prop
abbrev St := List (Option V)
abbrev VK := V → Hp → Prop
/-- an expression's reading; a test's; an argument list's -/
abbrev TE := St → Hp → VK → Prop
abbrev TT := St → Hp → (Bool → Hp → Prop) → Prop
abbrev TA := St → Hp → (List V → Hp → Prop) → Prop
/-- what is wanted behind a statement -/
structure Ends where
  nx : St → Hp → Prop
  rt : VK
  bk : St → Hp → Prop := fun _ _ => False
  ct : St → Hp → Prop := fun _ _ => False
abbrev TS := Ends → St → Hp → Prop

def EP (X : Cx) (pins : List (Addr × Obj)) (σ : St) (Q : VK) (u : Value) (s' : Shared) : Prop := ∃ v H', Inv X pins σ H' s' ∧ RelV v u ∧ Q v H'
def TP (X : Cx) (pins : List (Addr × Obj)) (σ : St) (Q : Bool → Hp → Prop) (b : Bool) (s' : Shared) : Prop := ∃ H', Inv X pins σ H' s' ∧ Q b H'
def AP (X : Cx) (pins : List (Addr × Obj)) (σ : St) (Q : List V → Hp → Prop) (us : List Value) (s' : Shared) : Prop := ∃ vs H', Inv X pins σ H' s' ∧ Vals vs us ∧ Q vs H'
def SP (X : Cx) (pins : List (Addr × Obj)) (D : Ends) (f : Flow) (s' : Shared) : Prop :=
  match f with
  | .next => ∃ σ' H', Inv X pins σ' H' s' ∧ D.nx σ' H'
  | .brk => ∃ σ' H', Inv X pins σ' H' s' ∧ D.bk σ' H'
  | .cont => ∃ σ' H', Inv X pins σ' H' s' ∧ D.ct σ' H'
  | .ret u => ∃ v σ' H', Inv X pins σ' H' s' ∧ RelV v u ∧ D.rt v H'

def PE (X : Cx) (e : Expr) (t : TE) : Prop :=
  ∀ (pins : List (Addr × Obj)) (s : Shared) (σ : St) (H : Hp) (Q : VK), Inv X pins σ H s → t σ H Q → wpAny (model X.prog X.w) X.A (eval e X.env) (EP X pins σ Q) X.xe s
def PT (X : Cx) (e : Expr) (t : TT) : Prop :=
  ∀ (pins : List (Addr × Obj)) (s : Shared) (σ : St) (H : Hp) (Q : Bool → Hp → Prop), Inv X pins σ H s → t σ H Q → wpAny (model X.prog X.w) X.A (isTrue e X.env (eval e X.env)) (TP X pins σ Q) X.xe s
/-- a test whatever its 'whole' is (and, or) -/
def PW (X : Cx) (e : Expr) (t : TT) : Prop :=
  ∀ (whole : Sem Value) (pins : List (Addr × Obj)) (s : Shared) (σ : St) (H : Hp) (Q : Bool → Hp → Prop), Inv X pins σ H s → t σ H Q → wpAny (model X.prog X.w) X.A (isTrue e X.env whole) (TP X pins σ Q) X.xe s
theorem PW.pt {X : Cx} {e : Expr} {t : TT} (h : PW X e t) : PT X e t := h _
/-- an argument list (no star), from the left -/
def PA (X : Cx) (es : List Expr) (t : TA) : Prop :=
  ∀ (pos : Pos) (pins : List (Addr × Obj)) (s : Shared) (σ : St) (H : Hp) (Q : List V → Hp → Prop), Inv X pins σ H s → t σ H Q → wpAny (model X.prog X.w) X.A (spliced (backTo pos (starEach es X.env))) (AP X pins σ Q) X.xe s
def PS (X : Cx) (st : Stmt) (t : TS) : Prop :=
  ∀ (pins : List (Addr × Obj)) (s : Shared) (σ : St) (H : Hp) (D : Ends), Inv X pins σ H s → t D σ H → wpAny (model X.prog X.w) X.A (exec st X.env) (SP X pins D) X.xe s
def PSs (X : Cx) (st : List Stmt) (t : TS) : Prop :=
  ∀ (pins : List (Addr × Obj)) (s : Shared) (σ : St) (H : Hp) (D : Ends), Inv X pins σ H s → t D σ H → wpAny (model X.prog X.w) X.A (execs st X.env) (SP X pins D) X.xe s
/-- weaken the end -/
theorem thn {α : Type} {t : Sem α} {Q Q' : α → Shared → Prop} {M : Model} {A : Around} {E : Value → Shared → Prop} {s : Shared} (h : wpAny M A t Q E s) (hQ : ∀ a s, Q a s → Q' a s) : wpAny M A t Q' E s := wpAny_mono h hQ fun _ _ x => x
end L2

namespace L2
open PySem PySem.Spec PyProof.Rows
section
variable {X : Cx}

/-- two expressions in a row -/
theorem bin {a b : Expr} {ta tb : TE} (ha : PE X a ta) (hb : PE X b tb) {pins : List (Addr × Obj)} {s : Shared} {σ : St} {H : Hp} {R : V → V → Hp → Prop} (I : Inv X pins σ H s) (h : ta σ H fun x H1 => tb σ H1 fun y H2 => R x y H2)
    {α : Type} {Q : α → Shared → Prop} {f : Value → Value → Sem α}
    (hf : ∀ v u s2 x y H2, Inv X pins σ H2 s2 → RelV x v → RelV y u → R x y H2 → wpAny (model X.prog X.w) X.A (f v u) Q X.xe s2) :
    wpAny (model X.prog X.w) X.A (eval a X.env) (fun v s₁ => wpAny (model X.prog X.w) X.A (eval b X.env) (fun u s₂ => wpAny (model X.prog X.w) X.A (f v u) Q X.xe s₂) X.xe s₁) X.xe s := by
  refine thn (ha pins s σ H _ I h) fun v s1 ⟨x, H1, I1, r1, q1⟩ => ?_
  refine thn (hb pins s1 σ H1 _ I1 q1) fun u s2 ⟨y, H2, I2, r2, q2⟩ => ?_
  exact hf v u s2 x y H2 I2 r1 r2 q2

/-! ### names and constants -/
def tVar (i : Nat) : TE := fun σ H Q => ∃ v, σ[i]? = some (some v) ∧ Q v H
def tC (v : V) : TE := fun _ H Q => Q v H
theorem pe_var {i : Nat} {x : Str} {pos : Pos} (hN : X.N[i]? = some x) (hv : Vis X.env.scope x) (hd : (x == ("__debug__" : Str)) = false := by decide) (hcd : (x == ("__classdict__" : Str)) = false := by decide) : PE X (.Name x pos) (tVar i) := by
  intro pins s σ H Q I h
  obtain ⟨v, e, h⟩ := h
  obtain ⟨m, hn, hl⟩ := I.loc
  obtain ⟨u, r, l⟩ := hl i x v hN e hv
  have fin : EP X pins σ Q u s := ⟨v, H, I, r, h⟩
  rcases l with ⟨hk, hm⟩ | ⟨hk, c, hc, hcell⟩
  · exact wpAny_Name (wpAny_loadName_local I.ok.kind hk hn hm fin) hd
  · rcases hk with hk | hk
    · exact wpAny_Name (wpAny_loadName_cell I.ok.kind hk hc hcell fin) hd
    · exact wpAny_Name (wpAny_loadName_free I.ok.kind hk hc hcell fin hcd) hd
theorem pe_int {i j pos} : PE X (.Constant (.int i) j pos) (tC (.int i)) := fun _ _ _ H _ I h => wpAny_Constant_int ⟨.int i, H, I.tok _, ⟨_, rfl⟩, h⟩
theorem pe_bl {b j pos} : PE X (.Constant (.bool b) j pos) (tC (.bl b)) := fun _ _ _ H _ I h => Constant_bool ⟨.bl b, H, I, rfl, h⟩
theorem pe_non {j pos} : PE X (.Constant .none j pos) (tC .non) := fun _ _ _ H _ I h => Constant_none ⟨.non, H, I, rfl, h⟩
theorem pe_str {x j pos} : PE X (.Constant (.str x) j pos) (tC (.str x)) := fun _ _ _ H _ I h => Calls.Constant_str ⟨.str x, H, I.tok _, ⟨_, rfl⟩, h⟩

/-- a global name of the def -/
def Gl (X : Cx) (x : Str) : Prop := X.env.kindOf x = some .globalImplicit
theorem ld_glob {E : Value → Shared → Prop} {pins : List (Addr × Obj)} {s : Shared} {σ : St} {H : Hp} {x : Str} {u : Value} {pos : Pos} {Q : Value → Shared → Prop} (I : Inv X pins σ H s) (hg : Gl X x) (hm : X.mg x = some u) (h : Q u s)
    (hd : (x == ("__debug__" : Str)) = false := by decide) : wpAny (model X.prog X.w) X.A (eval (.Name x pos) X.env) Q E s :=
  Calls.Name_function_global I.ok.kind hg (Calls.loadGlobal_global (by rw [I.ok.glob]; exact I.mod.glob.keeps I.bk) hm h) hd
theorem ld_blt {E : Value → Shared → Prop} {pins : List (Addr × Obj)} {s : Shared} {σ : St} {H : Hp} {x : Str} {u : Value} {pos : Pos} {Q : Value → Shared → Prop} (I : Inv X pins σ H s) (hg : Gl X x) (hm : X.mg x = none) (hv : bootBuiltins x = some u) (h : Q u s)
    (hn : x ≠ "__name__" := by decide) (hd : (x == ("__debug__" : Str)) = false := by decide) : wpAny (model X.prog X.w) X.A (eval (.Name x pos) X.env) Q E s := by
  obtain ⟨mb, h1, h2⟩ := I.mod.blt
  exact Calls.Name_function_global I.ok.kind hg (Calls.loadGlobal_builtin (by rw [I.ok.glob]; exact I.mod.glob.keeps I.bk) hm (by rw [I.ok.blt]; exact h1.keeps I.bk) ((h2 x hn).trans hv) h) hd
/-- a module's constant, a class, a function, as a value -/
theorem pe_glob {x : Str} {v : V} {u : Value} {pos : Pos} (hg : Gl X x) (hm : X.mg x = some u) (r : RelV v u) (hd : (x == ("__debug__" : Str)) = false := by decide) : PE X (.Name x pos) (tC v) :=
  fun _ _ _ H _ I h => ld_glob I hg hm ⟨v, H, I, r, h⟩ hd
theorem pe_bltn {x : Str} {v : V} {u : Value} {pos : Pos} (hg : Gl X x) (hm : X.mg x = none) (hv : bootBuiltins x = some u) (r : RelV v u) (hn : x ≠ "__name__" := by decide) (hd : (x == ("__debug__" : Str)) = false := by decide) : PE X (.Name x pos) (tC v) :=
  fun _ _ _ H _ I h => ld_blt I hg hm hv ⟨v, H, I, r, h⟩ hn hd

/-! ### arithmetic -/
/-- two ints -/
def t2I (ta tb : TE) (k : Int → Int → Hp → Prop) : St → Hp → Prop := fun σ H => ta σ H fun x H1 => tb σ H1 fun y H2 => ∃ i j, x = .int i ∧ y = .int j ∧ k i j H2
def tAdd (ta tb : TE) : TE := fun σ H Q => t2I ta tb (fun i j H2 => Q (.int (i + j)) H2) σ H
def tSub (ta tb : TE) : TE := fun σ H Q => t2I ta tb (fun i j H2 => Q (.int (i - j)) H2) σ H
/-- the left factor below 2^64 -/
def tMul (ta tb : TE) : TE := fun σ H Q => t2I ta tb (fun i j H2 => (-(2 ^ 64) < i ∧ i < 2 ^ 64) ∧ Q (.int (i * j)) H2) σ H
variable {a b : Expr} {ta tb : TE} {pos : Pos}
/-! ### comparisons -/
def PC (X : Cx) (op : CmpOp) (a b : Expr) (t : TE) : Prop :=
  ∀ (pins : List (Addr × Obj)) (s : Shared) (σ : St) (H : Hp) (Q : VK), Inv X pins σ H s → t σ H Q →
    wpAny (model X.prog X.w) X.A (eval a X.env) (fun v s₁ => wpAny (model X.prog X.w) X.A (eval b X.env) (fun u s₂ => wpAny (model X.prog X.w) X.A (compareOp op v u) (EP X pins σ Q) X.xe s₂) X.xe s₁) X.xe s
theorem nobehind (b : Expr) {op : CmpOp} (h : op ≠ .In) (h2 : op ≠ .NotIn) : behindInMarks op b = false := by
  have e1 : (op == CmpOp.In) = false := by cases op <;> first | rfl | exact absurd rfl h
  have e2 : (op == CmpOp.NotIn) = false := by cases op <;> first | rfl | exact absurd rfl h2
  cases b <;> simp [behindInMarks, e1, e2]
def tCmp (p : Int → Int → Bool) (ta tb : TE) : TE := fun σ H Q => t2I ta tb (fun i j H2 => Q (.bl (p i j)) H2) σ H
abbrev tLt : TE → TE → TE := tCmp fun i j => decide (i < j)
abbrev tLe : TE → TE → TE := tCmp fun i j => decide (i ≤ j)
abbrev tGt : TE → TE → TE := tCmp fun i j => decide (j < i)
abbrev tGe : TE → TE → TE := tCmp fun i j => decide (j ≤ i)
abbrev tEqI : TE → TE → TE := tCmp fun i j => decide (i = j)
abbrev tNeI : TE → TE → TE := tCmp fun i j => !decide (i = j)
/-- is None -/
def tIsN (ta : TE) : TE := fun σ H Q => ta σ H fun x H1 => Q (.bl (decide (x = .non))) H1
def tNotN (ta : TE) : TE := fun σ H Q => ta σ H fun x H1 => Q (.bl (!decide (x = .non))) H1
/-- a comparison as a value, as a test -/
def tB (t : TE) : TT := fun σ H Q => t σ H fun x H1 => ∃ c, x = .bl c ∧ Q c H1
theorem pt_cmp {op : CmpOp} {t : TE} (h : PC X op a b t) (h1 : behindInMarks op b = false := by first | exact nobehind _ (by decide) (by decide) | rfl) : PT X (.Compare a [op] [b] pos) (tB t) := by
  intro pins s σ H Q I hw
  refine wpAny_isTrue_Compare1 (thn (h pins s σ H _ I hw) fun v s1 h1 => thn h1 fun u s2 h2 => thn h2 fun c s3 ⟨x, H1, I1, r1, q1⟩ => ?_) h1
  obtain ⟨d, rfl, q⟩ := q1
  cases r1
  exact wpAny_truthy_bool ⟨H1, I1, q⟩
/-- an expression whose value is a bool, as a test -/
theorem pt_val {e : Expr} {t : TE} (h : PE X e t) (he : ∀ whole, isTrue e X.env whole = (do let v ← whole; standAt e.pos; holding [v] (truthy v)) := by intro _; rfl) : PT X e (tB t) := by
  intro pins s σ H Q I hw
  refine isTrue_plain (thn (h pins s σ H _ I hw) fun v s1 ⟨x, H1, I1, r1, q1⟩ => ?_) (he _)
  obtain ⟨d, rfl, q⟩ := q1
  cases r1
  exact wpAny_truthy_bool ⟨H1, I1, q⟩

/-! ### and, or, not -/
variable {tA tB' : TT} {rest : List Expr}
def tAnd (t u : TT) : TT := fun σ H Q => t σ H fun c H1 => if c = true then u σ H1 Q else Q false H1
def tOr (t u : TT) : TT := fun σ H Q => t σ H fun c H1 => if c = true then Q true H1 else u σ H1 Q
def tNot (t : TT) : TT := fun σ H Q => t σ H fun c H1 => Q (!c) H1
theorem pw_and1 (ha : PT X a tA) : PW X (.BoolOp .And [a] pos) tA := by
  intro wh pins s σ H Q I h
  refine isTrue_and (thn (ha pins s σ H Q I h) fun c s1 e => ?_)
  cases c with
  | true => exact isTrue_and_nil e
  | false => exact e
theorem pw_or1 (ha : PT X a tA) : PW X (.BoolOp .Or [a] pos) tA := by
  intro wh pins s σ H Q I h
  refine isTrue_or (thn (ha pins s σ H Q I h) fun c s1 e => ?_)
  cases c with
  | false => exact isTrue_or_nil e
  | true => exact e
theorem pw_and (ha : PT X a tA) (hb : PW X (.BoolOp .And (b :: rest) pos) tB') : PW X (.BoolOp .And (a :: b :: rest) pos) (tAnd tA tB') := by
  intro wh pins s σ H Q I h
  refine isTrue_and (thn (ha pins s σ H _ I h) fun c s1 ⟨H1, I1, q1⟩ => ?_)
  cases c with
  | true => exact hb wh pins s1 σ H1 Q I1 q1
  | false => exact ⟨H1, I1, q1⟩
theorem pw_or (ha : PT X a tA) (hb : PW X (.BoolOp .Or (b :: rest) pos) tB') : PW X (.BoolOp .Or (a :: b :: rest) pos) (tOr tA tB') := by
  intro wh pins s σ H Q I h
  refine isTrue_or (thn (ha pins s σ H _ I h) fun c s1 ⟨H1, I1, q1⟩ => ?_)
  cases c with
  | true => exact ⟨H1, I1, q1⟩
  | false => exact hb wh pins s1 σ H1 Q I1 q1
theorem pt_not (ha : PT X a tA) : PT X (.UnaryOp .Not a pos) (tNot tA) := by
  intro pins s σ H Q I h
  exact isTrue_not (ha pins s σ H (fun c H1 => Q (!c) H1) I h)
/-- .. as values (bools) -/
def tAndV (ta tb : TE) : TE := fun σ H Q => ta σ H fun x H1 => ∃ c, x = .bl c ∧ if c = true then tb σ H1 Q else Q (.bl false) H1
def tOrV (ta tb : TE) : TE := fun σ H Q => ta σ H fun x H1 => ∃ c, x = .bl c ∧ if c = true then Q (.bl true) H1 else tb σ H1 Q
def tNotV (ta : TE) : TE := fun σ H Q => ta σ H fun x H1 => ∃ c, x = .bl c ∧ Q (.bl (!c)) H1
theorem pe_one {op} {t : TE} (h : PE X a t) : PE X (.BoolOp op [a] pos) t := fun pins s σ H Q I hw => BoolOp_one (h pins s σ H Q I hw)
theorem pe_and (ha : PE X a ta) (hb : PE X (.BoolOp .And (b :: rest) pos) tb) : PE X (.BoolOp .And (a :: b :: rest) pos) (tAndV ta tb) := by
  intro pins s σ H Q I h
  refine BoolOp_and (thn (ha pins s σ H _ I h) fun v s1 ⟨x, H1, I1, r1, q1⟩ => ?_)
  obtain ⟨c, rfl, q1⟩ := q1
  cases r1
  refine wpAny_truthy_bool ?_
  cases c with
  | true => exact hb pins s1 σ H1 Q I1 q1
  | false => exact ⟨.bl false, H1, I1, rfl, q1⟩
theorem pe_or (ha : PE X a ta) (hb : PE X (.BoolOp .Or (b :: rest) pos) tb) : PE X (.BoolOp .Or (a :: b :: rest) pos) (tOrV ta tb) := by
  intro pins s σ H Q I h
  refine BoolOp_or (thn (ha pins s σ H _ I h) fun v s1 ⟨x, H1, I1, r1, q1⟩ => ?_)
  obtain ⟨c, rfl, q1⟩ := q1
  cases r1
  refine wpAny_truthy_bool ?_
  cases c with
  | false => exact hb pins s1 σ H1 Q I1 q1
  | true => exact ⟨.bl true, H1, I1, rfl, q1⟩
theorem pe_not (ha : PE X a ta) : PE X (.UnaryOp .Not a pos) (tNotV ta) := by
  intro pins s σ H Q I h
  refine UnaryOp_ (thn (ha pins s σ H _ I h) fun v s1 ⟨x, H1, I1, r1, q1⟩ => ?_)
  obtain ⟨c, rfl, q1⟩ := q1
  cases r1
  exact not_of (wpAny_truthy_bool ⟨.bl (!c), H1, I1, rfl, q1⟩)
/-- a if t else b -/
def tIf (t : TT) (ta tb : TE) : TE := fun σ H Q => t σ H fun c H1 => if c = true then ta σ H1 Q else tb σ H1 Q
end
end L2

namespace L2
open PySem PySem.Spec PyProof.Rows

/-! ### a list, a tuple that is read: tracked, frozen, or an object of the module -/
def SqL (K : PySem.W.Frag) (H : Hp) (a : Addr) (xs : List V) : Prop :=
  Rd H a (.lst xs) ∨
    ∃ (o : Obj) (its : Array Value) (n : Nat), K.lookup a = some o ∧ o.cls = .type "list" ∧ o.dict = none ∧ o.data = .seq its n ∧ its.size ≤ sizeLine ∧ Vals xs its.toList
def SqT (K : PySem.W.Frag) (H : Hp) (a : Addr) (xs : List V) : Prop :=
  Rd H a (.tup xs) ∨
    ∃ (o : Obj) (its : Array Value) (n : Nat), K.lookup a = some o ∧ o.cls = .type "tuple" ∧ o.data = .seq its n ∧ its.size ≤ sizeLine ∧ Vals xs its.toList
def absV : Value → Option V
  | .none => some .non
  | .bool b => some (.bl b)
  | .int i _ => some (.int i)
  | .str x _ => some (.str x)
  | .bytes b _ => some (.byt b)
  | .float b _ => some (.flt b)
  | .ref a => some (.ref a)
  | .type n => some (.ty n)
  | _ => none
theorem RelV.abs {x : V} {u : Value} (r : RelV x u) : absV u = some x := by
  cases x with
  | non => cases r; rfl
  | bl _ => cases r; rfl
  | int _ => obtain ⟨t, rfl⟩ := r; rfl
  | str _ => obtain ⟨t, rfl⟩ := r; rfl
  | byt _ => obtain ⟨t, rfl⟩ := r; rfl
  | flt _ => obtain ⟨t, rfl⟩ := r; rfl
  | ref _ => cases r; rfl
  | ty _ => cases r; rfl
theorem RelV.inj {x y : V} {u : Value} (r : RelV x u) (q : RelV y u) : x = y := Option.some.inj (r.abs.symm.trans q.abs)
theorem Vals.inj : ∀ {xs ys : List V} {us : List Value}, Vals xs us → Vals ys us → xs = ys
  | _, _, _, .nil, .nil => rfl
  | _, _, _, .cons r t, .cons r' t' => by rw [r.inj r', Vals.inj t t']
section
variable {X : Cx} {pins : List (Addr × Obj)} {σ : St} {H : Hp} {s : Shared} {a : Addr} {xs ys : List V}
theorem SqL.of {K : PySem.W.Frag} (h : H a = some (.lst xs)) : SqL K H a xs := .inl (.inl h)
theorem SqT.of {K : PySem.W.Frag} (h : H a = some (.tup xs)) : SqT K H a xs := .inl (.inl h)
theorem Inv.list (I : Inv X pins σ H s) (h : SqL X.K H a xs) : ∃ its : List Value, Vals xs its ∧ PlainL s.heap a its.toArray ∧ xs.length ≤ sizeLine := by
  rcases h with h | ⟨o, its, n, hk, hc, hd, hs, hz, r⟩
  · obtain ⟨z, its, n, r, e⟩ := h.ok I.hok
    exact ⟨its, r, ⟨_, n, e, rfl, rfl, rfl⟩, z⟩
  · refine ⟨its.toList, r, ⟨o, n, I.kIn a o hk, hc, hd, by simpa using hs⟩, ?_⟩
    have e := r.length
    simp only [Array.length_toList] at e
    omega
theorem Inv.tuple (I : Inv X pins σ H s) (h : SqT X.K H a xs) : ∃ its : List Value, Vals xs its ∧ IsTup s.heap a its.toArray ∧ xs.length ≤ sizeLine := by
  rcases h with h | ⟨o, its, n, hk, hc, hs, hz, r⟩
  · obtain ⟨z, its, r, p⟩ := h.ok I.hok
    exact ⟨its, r, p, z⟩
  · refine ⟨its.toList, r, ⟨o, I.kIn a o hk, hc, n, by simpa using hs⟩, ?_⟩
    have e := r.length
    simp only [Array.length_toList] at e
    omega
theorem Inv.list_inj (I : Inv X pins σ H s) (h : SqL X.K H a xs) (h' : SqL X.K H a ys) : xs = ys := by
  obtain ⟨its, r, ⟨o, n, e, _, _, d⟩, _⟩ := I.list h
  obtain ⟨its', r', ⟨o', n', e', _, _, d'⟩, _⟩ := I.list h'
  rw [e] at e'; cases e'
  rw [d] at d'
  injection d' with d1 _
  have : its = its' := by simpa using congrArg Array.toList d1
  subst this
  exact r.inj r'
theorem Inv.tuple_inj (I : Inv X pins σ H s) (h : SqT X.K H a xs) (h' : SqT X.K H a ys) : xs = ys := by
  obtain ⟨its, r, ⟨o, e, _, n, d⟩, _⟩ := I.tuple h
  obtain ⟨its', r', ⟨o', e', _, n', d'⟩, _⟩ := I.tuple h'
  rw [e] at e'; cases e'
  rw [d] at d'
  injection d' with d1 _
  have : its = its' := by simpa using congrArg Array.toList d1
  subst this
  exact r.inj r'
end

/-! ### another wish about exceptions -/
abbrev Cx.wish (X : Cx) (E : Value → Shared → Prop) : Cx := { X with xe := E }
/-- no exception leaves -/
abbrev Cx.nox (X : Cx) : Cx := X.wish fun _ _ => False
theorem Cx.Ok.wish {X : Cx} (ok : X.Ok) (E : Value → Shared → Prop) : (X.wish E).Ok :=
  ⟨ok.mod, ok.kind, ok.glob, ok.blt, ok.above, ok.inj, ok.has, ok.cab, ok.hd, ok.frames, ok.stk, ok.exf, ok.bs, ok.bsz, ok.noex, ok.exfs, ok.funs, ok.frf⟩
theorem Cx.Ok.unwish {X : Cx} {E : Value → Shared → Prop} (ok : (X.wish E).Ok) : X.Ok :=
  ⟨ok.mod, ok.kind, ok.glob, ok.blt, ok.above, ok.inj, ok.has, ok.cab, ok.hd, ok.frames, ok.stk, ok.exf, ok.bs, ok.bsz, ok.noex, ok.exfs, ok.funs, ok.frf⟩
section
variable {X : Cx} {pins : List (Addr × Obj)} {σ : St} {H : Hp} {s : Shared} {E : Value → Shared → Prop}
theorem Inv.wish (I : Inv X pins σ H s) (E : Value → Shared → Prop) : Inv (X.wish E) pins σ H s := ⟨I.ok.wish E, I.os, I.bare, I.base, I.loc, I.cell, I.free, I.freeC, I.pin, I.hok, I.len, I.hnd, I.tup⟩
theorem Inv.unwish (I : Inv (X.wish E) pins σ H s) : Inv X pins σ H s := ⟨I.ok.unwish, I.os, I.bare, I.base, I.loc, I.cell, I.free, I.freeC, I.pin, I.hok, I.len, I.hnd, I.tup⟩
theorem SP.unwish {D : Ends} {f : Flow} {s' : Shared} (h : SP (X.wish E) pins D f s') : SP X pins D f s' := by
  cases f with
  | next => obtain ⟨σ', H', I, q⟩ := h; exact ⟨σ', H', I.unwish, q⟩
  | brk => obtain ⟨σ', H', I, q⟩ := h; exact ⟨σ', H', I.unwish, q⟩
  | cont => obtain ⟨σ', H', I, q⟩ := h; exact ⟨σ', H', I.unwish, q⟩
  | ret u => obtain ⟨v, σ', H', I, r, q⟩ := h; exact ⟨v, σ', H', I.unwish, r, q⟩
theorem PE.nox {e : Expr} {t : TE} (h : PE X.nox e t) : PE X e t := fun pins s σ H Q I hw =>
  wpAny_mono (h pins s σ H Q (I.wish _) hw) (fun _ _ ⟨v, H', I', r, q⟩ => ⟨v, H', I'.unwish, r, q⟩) fun _ _ z => False.elim z
theorem PT.nox {e : Expr} {t : TT} (h : PT X.nox e t) : PT X e t := fun pins s σ H Q I hw =>
  wpAny_mono (h pins s σ H Q (I.wish _) hw) (fun _ _ ⟨H', I', q⟩ => ⟨H', I'.unwish, q⟩) fun _ _ z => False.elim z
theorem PSs.nox {st : List Stmt} {t : TS} (h : PSs X.nox st t) : PSs X st t := fun pins s σ H D I hw =>
  wpAny_mono (h pins s σ H D (I.wish _) hw) (fun _ _ q => q.unwish) fun _ _ z => False.elim z
end

/-! ### blocks and small statements -/
section
variable {X : Cx} {st : Stmt} {rest : List Stmt} {t u : TS} {e : Expr} {te : TE} {pos : Pos}
def tNext : TS := fun D σ H => D.nx σ H
def tSeq (t u : TS) : TS := fun D σ H => t { D with nx := u D } σ H
theorem pss_nil : PSs X [] tNext := fun _ _ σ H _ I h => wpAny_execs_nil ⟨σ, H, I, h⟩
theorem pss_cons (h1 : PS X st t) (h2 : PSs X rest u) : PSs X (st :: rest) (tSeq t u) := by
  intro pins s σ H D I h
  refine wpAny_execs_cons (thn (h1 pins s σ H { D with nx := u D } I h) fun f s1 q => ?_)
  cases f with
  | next =>
    obtain ⟨σ', H', I', q⟩ := q
    exact h2 pins s1 σ' H' D I' q
  | ret v => exact q
  | brk => exact q
  | cont => exact q
theorem pss_one (h1 : PS X st t) : PSs X [st] t := by
  intro pins s σ H D I h
  refine wpAny_execs_cons (thn (h1 pins s σ H D I h) fun f s1 q => ?_)
  cases f with
  | next => exact wpAny_execs_nil q
  | ret v => exact q
  | brk => exact q
  | cont => exact q
def tBreak : TS := fun D σ H => D.bk σ H
def tCont : TS := fun D σ H => D.ct σ H
theorem ps_pass : PS X (.Pass pos) tNext := fun _ _ σ H _ I h => wpAny_Pass ⟨σ, H, I, h⟩
/-- in a def's body nothing is shown -/
theorem Inv.quiet {pins : List (Addr × Obj)} {σ : St} {H : Hp} {s : Shared} (I : Inv X pins σ H s) : interactive X.env = false := by simp [interactive, I.ok.kind]
/-- an expression whose value is dropped -/
def tDrop (te : TE) : TS := fun D σ H => te σ H fun _ H1 => D.nx σ H1
theorem ps_expr (he : PE X e te) (hs : swapsWith e none pos.line X.env = pure false := by rfl) : PS X (.Expr e pos) (tDrop te) := by
  intro pins s σ H D I h
  exact wpAny_Expr_any (thn (he pins s σ H _ I h) fun v s1 ⟨x, H1, I1, r1, q1⟩ => ⟨σ, H1, I1, q1⟩) I.quiet hs
def tRet (te : TE) : TS := fun D σ H => te σ H D.rt
theorem ps_ret (he : PE X e te) : PS X (.Return (some e) pos) (tRet te) := by
  intro pins s σ H D I h
  exact wpAny_Return_some (thn (he pins s σ H _ I h) fun v s1 ⟨x, H1, I1, r1, q1⟩ => ⟨x, σ, H1, I1, r1, q1⟩)
def tRetN : TS := fun D _ H => D.rt .non H
def tIfS (c : TT) (t u : TS) : TS := fun D σ H => c σ H fun b H1 => if b = true then t D σ H1 else u D σ H1
theorem ps_if {c : Expr} {a b : List Stmt} {tc : TT} (hc : PT X c tc) (ha : PSs X a t) (hb : PSs X b u) : PS X (.If c a b pos) (tIfS tc t u) := by
  intro pins s σ H D I h
  refine wpAny_If (thn (hc pins s σ H _ I h) fun d s1 ⟨H1, I1, q1⟩ => ?_)
  cases d with
  | true => exact ha pins s1 σ H1 D I1 q1
  | false => exact hb pins s1 σ H1 D I1 q1
/-- code that the proof never comes to -/
def tNever : TS := fun _ _ _ => False
end

/-! ### targets -/
abbrev TG := V → St → Hp → (St → Hp → Prop) → Prop
abbrev TGs := List V → St → Hp → (St → Hp → Prop) → Prop
def PG (X : Cx) (target : Expr) (t : TG) : Prop :=
  ∀ (pins : List (Addr × Obj)) (s : Shared) (σ : St) (H : Hp) (v : V) (u : Value) (Q : St → Hp → Prop), Inv X pins σ H s → RelV v u → t v σ H Q →
    wpAny (model X.prog X.w) X.A (assign target X.env u) (fun _ s' => ∃ σ' H', Inv X pins σ' H' s' ∧ Q σ' H') X.xe s
/-- several targets, one after another -/
def PGs (X : Cx) (ts : List Expr) (t : TGs) : Prop :=
  ∀ (pins : List (Addr × Obj)) (s : Shared) (σ : St) (H : Hp) (vs : List V) (us : List Value) (Q : St → Hp → Prop), Inv X pins σ H s → Vals vs us → t vs σ H Q →
    wpAny (model X.prog X.w) X.A (assignInOrder ((assignEach ts X.env).map (·.2)) us) (fun _ s' => ∃ σ' H', Inv X pins σ' H' s' ∧ Q σ' H') X.xe s
/-- o[i] = v, by values -/
abbrev TSet := V → V → V → Hp → (Hp → Prop) → Prop
def PSet (X : Cx) (t : TSet) : Prop :=
  ∀ (pins : List (Addr × Obj)) (s : Shared) (σ : St) (H : Hp) (o i v : V) (ov iv u : Value) (Q : Hp → Prop), Inv X pins σ H s → RelV o ov → RelV i iv → RelV v u → t o i v H Q →
    wpAny (model X.prog X.w) X.A (setItem ov iv u) (fun _ s' => ∃ H', Inv X pins σ H' s' ∧ Q H') X.xe s
/-- a op= b, by values -/
abbrev TIp := V → V → Hp → VK → Prop
def PIp (X : Cx) (op : Operator) (t : TIp) : Prop :=
  ∀ (pins : List (Addr × Obj)) (s : Shared) (σ : St) (H : Hp) (x y : V) (v u : Value) (Q : VK), Inv X pins σ H s → RelV x v → RelV y u → t x y H Q →
    wpAny (model X.prog X.w) X.A (inplaceOp op v u) (EP X pins σ Q) X.xe s
section
variable {X : Cx} {pos : Pos}
def gName (i : Nat) : TG := fun v σ H Q => Q (σ.set i (some v)) H
theorem pg_name {i : Nat} {x : Str} (hN : X.N.Nodup) (hi : X.N[i]? = some x) (hx : Loc X.env.scope x) (hf : X.fn x = true ∨ X.env.scope.names.lookup x = some .local := by first | exact .inl rfl | exact .inr rfl | assumption) : PG X (.Name x pos) (gName i) := by
  intro pins s σ H v u Q I r h
  exact wpAny_assign_Name (store_ok I hN hi hx r (fun s' I' => ⟨_, H, I', h⟩) hf)
def gNil : TGs := fun vs σ H Q => vs = [] ∧ Q σ H
def gCons (t : TG) (u : TGs) : TGs := fun vs σ H Q => ∃ v r, vs = v :: r ∧ t v σ H fun σ' H' => u r σ' H' Q
theorem pgs_nil : PGs X [] gNil := by
  intro pins s σ H vs us Q I r h
  obtain ⟨e, h⟩ := h
  subst e
  cases r
  exact assignInOrder_nil ⟨σ, H, I, h⟩
theorem pgs_cons {e : Expr} {es : List Expr} {t : TG} {u : TGs} (h1 : PG X e t) (h2 : PGs X es u)
    (hs : (assignEach (e :: es) X.env).map (·.2) = assign e X.env :: (assignEach es X.env).map (·.2) := by rfl) : PGs X (e :: es) (gCons t u) := by
  intro pins s σ H vs us Q I r h
  obtain ⟨v, vr, e1, h⟩ := h
  subst e1
  cases r with
  | cons r rr =>
    rw [hs]
    refine assignInOrder_cons (thn (h1 pins s σ H _ _ _ I r h) fun _ s1 ⟨σ1, H1, I1, q1⟩ => ?_)
    exact h2 pins s1 σ1 H1 _ _ Q I1 rr q1
/-- (a, b, ..) = a tuple of that length -/
def gTup (K : PySem.W.Frag) (n : Nat) (t : TGs) : TG := fun v σ H Q => ∃ a xs, v = .ref a ∧ SqT K H a xs ∧ xs.length = n ∧ t xs σ H Q
theorem pg_tup {es : List Expr} {k : Nat} {t : TGs} {n : Nat} (hc : X.calm = true) (h : PGs X es t)
    (hn : (assignEach es X.env).length = n := by rfl) (hst : (assignEach es X.env).findIdx? (·.1) = none := by rfl) : PG X (.Tuple es k pos) (gTup X.K n t) := by
  intro pins s σ H v u Q I r hw
  obtain ⟨a, xs, e1, hq, hl, hw⟩ := hw
  subst e1
  cases r
  obtain ⟨its, rv, ht, hz⟩ := I.tuple hq
  refine assign_Tuple_tuple (I.ok.hd hc) ht (by simp [hn, ← hl, rv.length]) hst fun h' hx => ?_
  have I1 : Inv X pins σ H { s with heap := h' } := I.kept (t' := s.toks) fun b o e => hx b o (Nat.ne_of_lt (Heap.lt_size e)) e
  exact h pins _ σ H xs _ Q I1 (by simpa using rv) hw
/-- o[i] = .. -/
def gSub (to ti : TE) (t : TSet) : TG := fun v σ H Q => to σ H fun o H1 => ti σ H1 fun i H2 => t o i v H2 fun H3 => Q σ H3
/-- target = value -/
def tAsg (te : TE) (g : TG) : TS := fun D σ H => te σ H fun x H1 => g x σ H1 D.nx
/-- name = value -/
theorem ps_set {i : Nat} {x : Str} {e : Expr} {te : TE} {pos' : Pos} (hN : X.N.Nodup) (hi : X.N[i]? = some x) (hx : Loc X.env.scope x) (he : PE X e te) (hs : swapsWith e (some (.Name x pos')) pos.line X.env = pure false := by rfl) (hf : X.fn x = true ∨ X.env.scope.names.lookup x = some .local := by first | exact .inl rfl | exact .inr rfl | assumption) :
    PS X (.Assign [.Name x pos'] e pos) (tAsg te (gName i)) := by
  intro pins s σ H D I h
  refine wpAny_Assign_Name (thn (he pins s σ H _ I h) fun v s1 ⟨y, H1, I1, r1, q1⟩ => ?_) hs
  exact store_ok I1 hN hi hx r1 (fun s2 I2 => ⟨_, H1, I2, q1⟩) hf
/-- a, b = x, y with plain local names: stored from the right; the pair itself is not tracked (the opening rows as in PyProof/Rows/TupAssign.lean:23) -/
def tPar (i j : Nat) (ta : TA) : TS := fun D σ H => ta σ H fun vs H1 => ∃ v w, vs = [v, w] ∧ D.nx ((σ.set i (some v)).set j (some w)) H1
/-- name op= e -/
def tAug (i : Nat) (te : TE) (ti : TIp) : TS := fun D σ H => ∃ x, σ[i]? = some (some x) ∧ te σ H fun y H1 => ti x y H1 fun z H2 => D.nx (σ.set i (some z)) H2
/-- o[i] op= e -/
def tAugS (to ti te : TE) (tget : V → V → Hp → VK → Prop) (tip : TIp) (tset : TSet) : TS := fun D σ H => to σ H fun o H1 => ti σ H1 fun i H2 => tget o i H2 fun x H3 => te σ H3 fun y H4 => tip x y H4 fun z H5 => tset o i z H5 fun H6 => D.nx σ H6
/-- o[i], by values -/
def PGet (X : Cx) (t : V → V → Hp → VK → Prop) : Prop :=
  ∀ (pins : List (Addr × Obj)) (s : Shared) (σ : St) (H : Hp) (o i : V) (ov iv : Value) (Q : VK), Inv X pins σ H s → RelV o ov → RelV i iv → t o i H Q →
    wpAny (model X.prog X.w) X.A (getItem ov iv) (EP X pins σ Q) X.xe s
/-- ints -/
def ipI (f : Int → Int → Int) : TIp := fun x y H Q => ∃ i j, x = .int i ∧ y = .int j ∧ Q (.int (f i j)) H
end

/-! ### while -/
section
variable {X : Cx} {pos : Pos}
/-- the invariant W with its measure -/
def tWhile (c : TT) (tb : TS) : TS := fun D σ H => ∃ W : Nat → St → Hp → Prop, (∃ m, W m σ H) ∧ ∀ m σ H, W m σ H →
  c σ H fun b H1 => if b = true then ∃ N : St → Hp → Prop, (∀ σ' H', N σ' H' → ∃ m', m' < m ∧ W m' σ' H') ∧ tb { D with nx := N, ct := N, bk := D.nx } σ H1 else D.nx σ H1
theorem ps_while {c : Expr} {body : List Stmt} {tc : TT} {tb : TS} (hp : PassesOwn (model X.prog X.w) X.A X.env X.xe) (hc : PT X c tc) (hb : PSs X body tb) : PS X (.While c body [] pos) (tWhile tc tb) := by
  intro pins s σ H D I h
  obtain ⟨W, ⟨m0, w0⟩, turn⟩ := h
  refine wpAny_While (codeAny_whileLoop (fun n s' => ∃ σ' H', Inv X pins σ' H' s' ∧ W n σ' H') ?_ m0 ⟨σ, H, I, w0⟩)
  rintro n s1 ⟨σ1, H1, I1, w1⟩
  refine wpAny_passesOwn hp (thn (hc pins s1 σ1 H1 _ I1 (turn n σ1 H1 w1)) fun b s2 ⟨H2, I2, q2⟩ => ?_)
  cases b with
  | true =>
    obtain ⟨N, hN, q2⟩ := q2
    rw [if_pos rfl]
    refine wpAny_passesOwn hp (thn (hb pins s2 σ1 H2 _ I2 q2) fun f s3 q3 => ?_)
    cases f with
    | next =>
      obtain ⟨σ3, H3, I3, n3⟩ := q3
      obtain ⟨m', hm, w3⟩ := hN σ3 H3 n3
      exact ⟨m', hm, σ3, H3, I3, w3⟩
    | cont =>
      obtain ⟨σ3, H3, I3, n3⟩ := q3
      obtain ⟨m', hm, w3⟩ := hN σ3 H3 n3
      exact ⟨m', hm, σ3, H3, I3, w3⟩
    | brk => exact q3
    | ret v => exact q3
  | false =>
    rw [if_neg Bool.false_ne_true]
    exact wpAny_execs_nil ⟨σ1, H2, I2, q2⟩
end

/-! ### what a loop or a comprehension walks -/
/-- at turn i: it yields x (the heap may grow), or it stops -/
structure It where
  go : Nat → Hp → Prop
  yld : Nat → Hp → V → Hp → Prop
  stop : Nat → Hp → Prop
/-- the iterator's own objects may turn: they are not the frame's, not pinned, younger than the entry (or a comprehension's own) -/
def FpOk (X : Cx) (pins : List (Addr × Obj)) (H : Hp) (b : Addr) : Prop :=
  H b = none ∧ b ≠ X.env.locals ∧ b ∉ X.fs ∧ (b ∈ X.ex ∨ X.s₀.heap.objs.size ≤ b) ∧ (∀ x c, X.env.cells.lookup x = some c → c ≠ b) ∧ ∀ p ∈ X.pn ++ pins, p.1 ≠ b
theorem Inv.fpOk {X : Cx} {pins : List (Addr × Obj)} {σ : St} {H H' : Hp} {s : Shared} {b : Addr} (I : Inv X pins σ H s) (hb : s.heap.objs.size ≤ b) (hn : H' b = none) : FpOk X pins H' b := by
  refine ⟨hn, Nat.ne_of_gt (Nat.lt_of_lt_of_le I.lt hb), I.nofs hb, .inr (Nat.le_trans I.sz hb), fun x c e z => ?_, fun p hp z => ?_⟩
  · obtain ⟨v, q⟩ := I.cell x c e
    exact absurd (Nat.lt_of_lt_of_le q.lt (by rw [z]; exact hb)) (Nat.lt_irrefl _)
  · exact absurd (Nat.lt_of_lt_of_le (Heap.lt_size (I.pin p hp).1) (by rw [z]; exact hb)) (Nat.lt_irrefl _)
structure Turn (cm : Bool) (tl : List (Addr × List V)) (P : Program) (w : World) (K : PySem.W.Frag) (tg : Expr) (J : It) (fp : List Addr) (it : Addr) (tn : Nat → Heap → Prop) : Prop where
  mem : it ∈ fp
  obj : ∀ i h, tn i h → ∀ b ∈ fp, ∃ o, h.get? b = some o ∧ ∀ v, o.data ≠ .cell v
  keep : ∀ i h h', tn i h → (∀ b ∈ fp, ∀ o, h.get? b = some o → h'.get? b = some o) → tn i h'
  item : ∀ (X : Cx), X.prog = P → X.w = w → X.K = K → (cm = true → X.calm = true) → (∀ p ∈ tl, p ∈ X.tp) → ∀ (i : Nat) (pins : List (Addr × Obj)) (s : Shared) (σ : St) (H : Hp) (E : Value → Shared → Prop), Inv X pins σ H s → (∀ b ∈ fp, FpOk X pins H b) → tn i s.heap → J.go i H →
    wpAny (model P w) X.A (pyNext (.ref it)) (fun r s1 => ∃ u, r = some u ∧
      wpAny (model P w) X.A (letOwnedTupleGo tg (.ref it) u) (fun _ s2 => ∃ x H', Inv X pins σ H' s2 ∧ RelV x u ∧ J.yld i H x H' ∧ tn (i + 1) s2.heap ∧ ∀ b ∈ fp, H' b = none) E s1) E s
  done : ∀ (X : Cx), X.prog = P → X.w = w → X.K = K → (cm = true → X.calm = true) → (∀ p ∈ tl, p ∈ X.tp) → ∀ (i : Nat) (pins : List (Addr × Obj)) (s : Shared) (σ : St) (H : Hp) (E : Value → Shared → Prop), Inv X pins σ H s → (∀ b ∈ fp, FpOk X pins H b) → tn i s.heap → J.stop i H →
    wpAny (model P w) X.A (pyNext (.ref it)) (fun r s1 => r = none ∧ Inv X pins σ H s1) E s
  self : ∀ (A : Around) (i : Nat) (s : Shared) (Q : Value → Shared → Prop) (E : Value → Shared → Prop), tn i s.heap → Q (.ref it) s → wpAny (model P w) A (pyIter (.ref it)) Q E s
abbrev TI := St → Hp → (It → Hp → Prop) → Prop
/-- an iterator has come -/
def PIE (X : Cx) (pins : List (Addr × Obj)) (σ : St) (tg : Expr) (R : It → Hp → Prop) (itv : Value) (s2 : Shared) : Prop :=
  ∃ (it : Addr) (fp : List Addr) (tn : Nat → Heap → Prop) (J : It) (H' : Hp), itv = .ref it ∧ Inv X pins σ H' s2 ∧ Turn X.calm X.tp X.prog X.w X.K tg J fp it tn ∧ tn 0 s2.heap ∧ (∀ b ∈ fp, FpOk X pins H' b) ∧ R J H'
def PI (X : Cx) (tg iter : Expr) (wi : TI) : Prop :=
  ∀ (pins : List (Addr × Obj)) (s : Shared) (σ : St) (H : Hp) (R : It → Hp → Prop), Inv X pins σ H s → wi σ H R →
    wpAny (model X.prog X.w) X.A (eval iter X.env) (fun v s1 => wpAny (model X.prog X.w) X.A (pyIter v) (PIE X pins σ tg R) X.xe s1) X.xe s

/-- the step ahead of the store is nothing for an iterator that keeps no tuple -/
theorem go_of {M : Model} {A : Around} {E : Value → Shared → Prop} {s : Shared} {tg : Expr} {it : Addr} {u : Value} {o : Obj} {n : String} {vs : Array Value} {Q : Unit → Shared → Prop} (ho : s.heap.get? it = some o) (hc : o.cls = .type n) (hd : o.data = .fields vs)
    (hn : ["enumerate", "zip", "dict_itemiterator", "dict_reverseitemiterator", "odict_iterator", "itertools.zip_longest", "itertools.pairwise"].contains n = false) (hQ : Q () s) : wpAny M A (letOwnedTupleGo tg (.ref it) u) Q E s := by
  unfold letOwnedTupleGo
  cases tg <;> first
    | exact wpAny_pure hQ
    | (cases u <;> first
        | exact wpAny_pure hQ
        | (refine wpAny_bind (wpAny_load ho ?_)
           rw [hc, hd]
           show wpAny M A (if (["enumerate", "zip", "dict_itemiterator", "dict_reverseitemiterator", "odict_iterator", "itertools.zip_longest", "itertools.pairwise"].contains n && vs[0]? == some (rawInt _)) = true then _ else _) Q E s
           rw [if_neg (by intro h; rw [hn, Bool.false_and] at h; cases h)]
           exact wpAny_pure hQ))

/-- the list at a, as it stands at each turn (a loop may append to it) -/
def Itl (K : PySem.W.Frag) (a : Addr) : It :=
  ⟨fun i H => ∃ xs x, SqL K H a xs ∧ xs[i]? = some x, fun i H x H' => H' = H ∧ ∀ xs, SqL K H a xs → xs[i]? = some x, fun i H => ∃ xs, SqL K H a xs ∧ xs.length ≤ i⟩
def Itt (K : PySem.W.Frag) (a : Addr) : It :=
  ⟨fun i H => ∃ xs x, SqT K H a xs ∧ xs[i]? = some x, fun i H x H' => H' = H ∧ ∀ xs, SqT K H a xs → xs[i]? = some x, fun i H => ∃ xs, SqT K H a xs ∧ xs.length ≤ i⟩
/-- lo, lo + 1, .. (n of them) -/
def Itr (lo : Int) (n : Nat) : It := ⟨fun i _ => i < n, fun i H x H' => H' = H ∧ x = .int (lo + i), fun i _ => n ≤ i⟩
theorem turn_list {cm : Bool} {tl : List (Addr × List V)} {P : Program} {w : World} {K : PySem.W.Frag} {tg : Expr} (a it : Addr) : Turn cm tl P w K tg (Itl K a) [it] it (fun i h => h.IsListIter it a i) where
  mem := by simp
  obj := fun i h st b hb => by
    have e : b = it := by simpa using hb
    subst e
    obtain ⟨o, e, c, d⟩ := st
    exact ⟨o, e, fun v z => by rw [d] at z; cases z⟩
  keep := fun i h h' st k => st.at fun o e => k it (by simp) o e
  item := by
    intro X hP hw hK hc ht i pins s σ H E I hf st hg
    subst hP hw hK
    obtain ⟨xs, x, hq, hx⟩ := hg
    obtain ⟨its, rv, p, hz⟩ := I.list hq
    obtain ⟨u, hu, ru⟩ := rv.get hx
    obtain ⟨f0, f1, f2, f3, f4, f5⟩ := hf it (by simp)
    refine wpAny_pyNext_list_item st p.isList (x := u) (by simpa using hu) fun h' st' sb => ?_
    have I1 : Inv X pins σ H { s with heap := h' } := I.turned (t' := s.toks) (fun b o hb e => (sb.2 b hb).trans e) f0 f1 f3 f4 f5
    obtain ⟨o, e, c, d⟩ := id st'
    exact ⟨u, rfl, go_of (s := { s with heap := h' }) e c d (by decide) ⟨x, H, I1, ru, ⟨rfl, fun ys hy => by rw [I.list_inj hy hq]; exact hx⟩, st', fun b hb => (hf b hb).1⟩⟩
  done := by
    intro X hP hw hK hc ht i pins s σ H E I hf st hg
    subst hP hw hK
    obtain ⟨xs, hq, hx⟩ := hg
    obtain ⟨its, rv, p, hz⟩ := I.list hq
    obtain ⟨f0, f1, f2, f3, f4, f5⟩ := hf it (by simp)
    have hl := rv.length
    exact list_stop (I.hnd.heap I.hok) st p.isList (by simp; omega) fun h' eb => ⟨rfl, I.turned (t' := s.toks) (fun b o hb e => eb b o hb e) f0 f1 f3 f4 f5⟩
  self := fun _ _ _ _ _ st h => wpAny_pyIter_listiter st h
theorem turn_tuple {cm : Bool} {tl : List (Addr × List V)} {P : Program} {w : World} {K : PySem.W.Frag} {tg : Expr} (a it : Addr) : Turn cm tl P w K tg (Itt K a) [it] it (fun i h => h.IsTupleIter it a i) where
  mem := by simp
  obj := fun i h st b hb => by
    have e : b = it := by simpa using hb
    subst e
    obtain ⟨o, e, c, d⟩ := st
    exact ⟨o, e, fun v z => by rw [d] at z; cases z⟩
  keep := fun i h h' st k => st.at fun o e => k it (by simp) o e
  item := by
    intro X hP hw hK hc ht i pins s σ H E I hf st hg
    subst hP hw hK
    obtain ⟨xs, x, hq, hx⟩ := hg
    obtain ⟨its, rv, p, hz⟩ := I.tuple hq
    obtain ⟨u, hu, ru⟩ := rv.get hx
    obtain ⟨f0, f1, f2, f3, f4, f5⟩ := hf it (by simp)
    refine wpAny_pyNext_tuple_item st (show s.heap.IsTuple a its.toArray from p) (x := u) (by simpa using hu) fun h' st' sb => ?_
    have I1 : Inv X pins σ H { s with heap := h' } := I.turned (t' := s.toks) (fun b o hb e => (sb.2 b hb).trans e) f0 f1 f3 f4 f5
    obtain ⟨o, e, c, d⟩ := id st'
    exact ⟨u, rfl, go_of (s := { s with heap := h' }) e c d (by decide) ⟨x, H, I1, ru, ⟨rfl, fun ys hy => by rw [I.tuple_inj hy hq]; exact hx⟩, st', fun b hb => (hf b hb).1⟩⟩
  done := by
    intro X hP hw hK hc ht i pins s σ H E I hf st hg
    subst hP hw hK
    obtain ⟨xs, hq, hx⟩ := hg
    obtain ⟨its, rv, p, hz⟩ := I.tuple hq
    obtain ⟨f0, f1, f2, f3, f4, f5⟩ := hf it (by simp)
    have hl := rv.length
    exact tup_stop (I.hnd.heap I.hok) st (show s.heap.IsTuple a its.toArray from p) (by simp; omega) fun h' eb => ⟨rfl, I.turned (t' := s.toks) (fun b o hb e => eb b o hb e) f0 f1 f3 f4 f5⟩
  self := fun _ _ _ _ _ st h => wpAny_pyIter_tupleiter st h
theorem turn_range {cm : Bool} {tl : List (Addr × List V)} {P : Program} {w : World} {K : PySem.W.Frag} {tg : Expr} (it : Addr) (lo : Int) (n : Nat) : Turn cm tl P w K tg (Itr lo n) [it] it (fun i h => IsRangeIter h it (lo + (i : Nat) * 1) ((n : Int) - (i : Nat)) 1) where
  mem := by simp
  obj := fun i h st b hb => by
    have e : b = it := by simpa using hb
    subst e
    exact ⟨_, st, fun v z => by
      have z' : Data.fields _ = Data.cell v := z
      cases z'⟩
  keep := fun i h h' st k => k it (by simp) _ st
  item := by
    intro X hP hw hK hc ht i pins s σ H E I hf st hg
    subst hP hw hK
    obtain ⟨f0, f1, f2, f3, f4, f5⟩ := hf it (by simp)
    have hi : i < n := hg
    refine wpAny_pyNext_range_item st (by omega) fun h' st' kk => ?_
    have I1 : Inv X pins σ H { s with heap := h', toks := s.toks + 1 } := I.turned (fun b o hb e => (kk.2 b hb).trans e) f0 f1 f3 f4 f5
    have st2 : IsRangeIter h' it (lo + ((i + 1 : Nat) : Int) * 1) ((n : Int) - ((i + 1 : Nat) : Int)) 1 := by
      have e1 : lo + ((i : Nat) : Int) * 1 + 1 = lo + ((i + 1 : Nat) : Int) * 1 := by omega
      have e2 : (n : Int) - ((i : Nat) : Int) - 1 = (n : Int) - ((i + 1 : Nat) : Int) := by omega
      rw [← e1, ← e2]; exact st'
    refine ⟨_, rfl, go_of (s := { s with heap := h', toks := s.toks + 1 }) (n := "range_iterator") st2 rfl rfl (by decide) ⟨.int (lo + i), H, I1, ⟨s.toks, ?_⟩, ⟨rfl, rfl⟩, st2, fun b hb => (hf b hb).1⟩⟩
    rw [Int.mul_one]
  done := by
    intro X hP hw hK hc ht i pins s σ H E I hf st hg
    subst hP hw hK
    obtain ⟨f0, f1, f2, f3, f4, f5⟩ := hf it (by simp)
    exact rng_stop (I.hnd.heap I.hok) st (by have : n ≤ i := hg; omega) fun h' eb => ⟨rfl, I.turned (t' := s.toks) (fun b o hb e => eb b o hb e) f0 f1 f3 f4 f5⟩
  self := fun _ _ _ _ _ st h => wpAny_pyIter_rangeiter st h
end L2

namespace L2
open PySem PySem.Spec PyProof.Rows
section
variable {X : Cx} {tg : Expr}
def iList (K : PySem.W.Frag) (tl : TE) : TI := fun σ H R => tl σ H fun x H1 => ∃ a, x = .ref a ∧ (∃ xs, SqL K H1 a xs) ∧ R (Itl K a) H1
def iTup (K : PySem.W.Frag) (tl : TE) : TI := fun σ H R => tl σ H fun x H1 => ∃ a, x = .ref a ∧ (∃ xs, SqT K H1 a xs) ∧ R (Itt K a) H1
/-- a range object just made, walked -/
theorem range_it {pins : List (Addr × Obj)} {σ : St} {H : Hp} {s : Shared} {R : It → Hp → Prop} {E : Value → Shared → Prop} {lo hi : Int} {t u v : Tok} {tk : Nat} (I : Inv X pins σ H s) (h1 : -(2 ^ 62) ≤ lo) (h2 : lo < 2 ^ 62) (h3 : -(2 ^ 62) ≤ hi) (h4 : hi < 2 ^ 62)
    (q : R (Itr lo (hi - lo).toNat) H) : wpAny (model X.prog X.w) X.A (pyIter (.ref s.heap.objs.size)) (PIE X pins σ tg R) E { s with heap := s.heap.push { cls := .type "range", data := .fields #[.int lo t, .int hi u, .int 1 v] }, toks := tk } := by
  refine wpAny_pyIter_range (IsRange.new ..) (small_one h1 h2 h3 h4) ?_
  have I1 : Inv X pins σ H { s with heap := s.heap.push { cls := .type "range", data := .fields #[.int lo t, .int hi u, .int 1 v] }, toks := tk } := I.kept fun b o e => Heap.get?_push_of_some _ e
  refine ⟨(s.heap.push { cls := .type "range", data := .fields #[.int lo t, .int hi u, .int 1 v] }).objs.size, [(s.heap.push { cls := .type "range", data := .fields #[.int lo t, .int hi u, .int 1 v] }).objs.size], _, _, H, rfl,
    I1.kept (t' := tk) fun b o e => Heap.get?_push_of_some _ e, turn_range _ lo (hi - lo).toNat, ?_, fun b hb => ?_, q⟩
  · have e1 : lo + ((0 : Nat) : Int) * 1 = lo := by simp
    have e2 : (((hi - lo).toNat : Nat) : Int) - ((0 : Nat) : Int) = Builtin.Range.rangeSize lo hi 1 := by rw [rangeSize_one]; split <;> omega
    show IsRangeIter _ _ (lo + ((0 : Nat) : Int) * 1) ((((hi - lo).toNat : Nat) : Int) - ((0 : Nat) : Int)) 1
    rw [e1, e2]
    exact Heap.get?_push_size _ rfl
  · have e : b = (s.heap.push { cls := .type "range", data := .fields #[.int lo t, .int hi u, .int 1 v] }).objs.size := by simpa using hb
    subst e
    exact I1.fpOk (Nat.le_refl _) (I1.hok.fresh (Nat.le_refl _))
def iRng1 (ta : TA) : TI := fun σ H R => ta σ H fun vs H1 => ∃ j : Int, vs = [.int j] ∧ -(2 ^ 62) ≤ j ∧ j < 2 ^ 62 ∧ R (Itr 0 j.toNat) H1
def iRng2 (ta : TA) : TI := fun σ H R => ta σ H fun vs H1 => ∃ i j : Int, vs = [.int i, .int j] ∧ (-(2 ^ 62) ≤ i ∧ i < 2 ^ 62 ∧ -(2 ^ 62) ≤ j ∧ j < 2 ^ 62) ∧ R (Itr i (j - i).toNat) H1
theorem pi_range1 {a : Expr} {ta : TA} {p pos : Pos} (hg : Gl X "range") (hm : X.mg "range" = none) (ha : PA X [a] ta) (hs : starEach [a] X.env = [(false, eval a X.env)] := by rfl) : PI X tg (.Call (.Name "range" p) [a] [] pos) (iRng1 ta) := by
  intro pins s σ H R I h
  refine Call_ (ld_blt I hg hm boot_range (PyProof.Rows.callWith_type1 (thn (ha pos pins s σ H _ I h) fun us s1 ⟨vs, H1, I1, r1, q1⟩ => ?_) hs rfl))
  obtain ⟨j, e, q1, q2, q⟩ := q1
  subst e
  cases r1 with
  | cons r rr =>
    cases rr
    obtain ⟨t, rfl⟩ := r
    exact call_range_1 (range_it I1 (by omega) (by omega) q1 q2 (by simpa using q))
/-! ### for -/
/-- W: the invariant by the turn and a measure; N: what the body is to reach -/
def tFor (wi : TI) (g : TG) (tb : TS) : TS := fun D σ H => wi σ H fun J H1 => ∃ W : Nat → Nat → St → Hp → Prop, (∃ m, W 0 m σ H1) ∧ ∀ i m σ H, W i m σ H →
  (J.stop i H ∧ D.nx σ H) ∨ (J.go i H ∧ ∃ N : St → Hp → Prop, (∀ σ' H', N σ' H' → ∃ m', m' < m ∧ W (i + 1) m' σ' H') ∧ ∀ x H', J.yld i H x H' → g x σ H' fun σ2 H2 => tb { D with nx := N, ct := N, bk := D.nx } σ2 H2)
/-- the records at fp as they stand -/
def pinsAt (fp : List Addr) (h : Heap) : List (Addr × Obj) := fp.filterMap fun b => (h.get? b).map fun o => (b, o)
theorem mem_pinsAt {fp : List Addr} {h : Heap} {b : Addr} {o : Obj} (hb : b ∈ fp) (e : h.get? b = some o) : (b, o) ∈ pinsAt fp h := List.mem_filterMap.mpr ⟨b, hb, by rw [e]; rfl⟩
theorem of_pinsAt {fp : List Addr} {h : Heap} {p : Addr × Obj} (hp : p ∈ pinsAt fp h) : p.1 ∈ fp ∧ h.get? p.1 = some p.2 := by
  obtain ⟨b, hb, e⟩ := List.mem_filterMap.mp hp
  cases q : h.get? b with
  | none => rw [q] at e; cases e
  | some o =>
    rw [q] at e
    have e' : (b, o) = p := Option.some.inj e
    subst e'
    exact ⟨hb, q⟩
theorem Inv.pinned {pins : List (Addr × Obj)} {σ : St} {H : Hp} {s : Shared} {fp : List Addr} (I : Inv X pins σ H s) (hf : ∀ b ∈ fp, FpOk X pins H b) (ho : ∀ b ∈ fp, ∃ o, s.heap.get? b = some o ∧ ∀ v, o.data ≠ .cell v) : Inv X (pins ++ pinsAt fp s.heap) σ H s :=
  I.pins_of fun p hp => (List.mem_append.mp hp).elim (fun z => I.pin p (List.mem_append_right _ z)) fun z => by
    obtain ⟨hb, e⟩ := of_pinsAt z
    obtain ⟨f0, f1, f2, _⟩ := hf p.1 hb
    obtain ⟨o, e', d⟩ := ho p.1 hb
    rw [e] at e'; cases e'
    exact ⟨e, f0, f1, f2, d⟩
theorem Inv.unpinned {pins pl : List (Addr × Obj)} {σ : St} {H : Hp} {s : Shared} (I : Inv X (pins ++ pl) σ H s) : Inv X pins σ H s := I.pins_of fun p hp => I.pin p (List.mem_append_right _ (List.mem_append_left _ hp))
theorem ps_for {iter : Expr} {body : List Stmt} {wi : TI} {g : TG} {tb : TS} {pos : Pos} (hp : PassesOwn (model X.prog X.w) X.A X.env X.xe) (hi : PI X tg iter wi) (hg : PG X tg g) (hb : PSs X body tb)
    (hs : ∀ x, foldedSetIterable iter X.env x = pure x := by intro _; rfl) : PS X (.For tg iter body [] pos) (tFor wi g tb) := by
  intro pins s σ H D I h
  refine wpAny_For (thn (hi pins s σ H _ I h) fun v s1 h1 => thn h1 fun itv s2 h2 => ?_) hs
  obtain ⟨it, fp, tn, J, H2, e, I2, T, st2, f2, W, ⟨m0, w0⟩, turn⟩ := h2
  subst e
  -- what stays true of the iterator's objects through the loop
  have stat : ∀ {H' : Hp}, (∀ b ∈ fp, H' b = none) → ∀ b ∈ fp, FpOk X pins H' b := fun hn b hb => ⟨hn b hb, (f2 b hb).2⟩
  refine codeAny_forLoop_any (fun n s' => ∃ i σ' H', Inv X pins σ' H' s' ∧ tn i s'.heap ∧ (∀ b ∈ fp, H' b = none) ∧ W i n σ' H') ?_ m0 ⟨0, σ, H2, I2, st2, fun b hb => (f2 b hb).1, w0⟩
  rintro n s3 ⟨i, σ3, H3, I3, st3, fr3, w3⟩
  rcases turn i n σ3 H3 w3 with ⟨stop, qn⟩ | ⟨go, N, hN, step⟩
  · refine wpAny_passesOwn hp (thn (T.done X rfl rfl rfl (fun h => h) (fun _ h => h) i pins s3 σ3 H3 X.xe I3 (stat fr3) st3 stop) fun r s4 ⟨hr, I4⟩ => ?_)
    subst hr
    exact wpAny_execs_nil ⟨σ3, H3, I4, qn⟩
  · refine wpAny_passesOwn hp (thn (T.item X rfl rfl rfl (fun h => h) (fun _ h => h) i pins s3 σ3 H3 X.xe I3 (stat fr3) st3 go) fun r s4 ⟨u, hr, h4⟩ => ?_)
    subst hr
    refine wpAny_passesOwn hp (thn h4 fun _ s5 ⟨x, H5, I5, r5, y5, st5, fr5⟩ => ?_)
    have I5' := I5.pinned (stat fr5) (T.obj _ _ st5)
    refine wpAny_passesOwn hp (thn (hg _ s5 σ3 H5 x u _ I5' r5 (step x H5 y5)) fun _ s6 ⟨σ6, H6, I6, q6⟩ => ?_)
    refine wpAny_passesOwn hp (thn (hb _ s6 σ6 H6 _ I6 q6) fun f s7 q7 => ?_)
    have again : ∀ {σ7 : St} {H7 : Hp}, Inv X (pins ++ pinsAt fp s5.heap) σ7 H7 s7 → N σ7 H7 → ∃ m, m < n ∧ ∃ i σ' H', Inv X pins σ' H' s7 ∧ tn i s7.heap ∧ (∀ b ∈ fp, H' b = none) ∧ W i m σ' H' := fun {σ7 H7} I7 n7 => by
      obtain ⟨m', hm, w7⟩ := hN σ7 H7 n7
      refine ⟨m', hm, i + 1, σ7, H7, I7.unpinned, T.keep _ _ _ st5 fun b hb o e => (I7.pin (b, o) (List.mem_append_right _ (List.mem_append_right _ (mem_pinsAt hb e)))).1, fun b hb => ?_, w7⟩
      obtain ⟨o, e, d⟩ := T.obj _ _ st5 b hb
      exact (I7.pin (b, o) (List.mem_append_right _ (List.mem_append_right _ (mem_pinsAt hb e)))).2.1
    cases f with
    | next => obtain ⟨σ7, H7, I7, n7⟩ := q7; exact again I7 n7
    | cont => obtain ⟨σ7, H7, I7, n7⟩ := q7; exact again I7 n7
    | brk => obtain ⟨σ7, H7, I7, q7⟩ := q7; exact ⟨σ7, H7, I7.unpinned, q7⟩
    | ret v => obtain ⟨x7, σ7, H7, I7, r7, q7⟩ := q7; exact ⟨x7, σ7, H7, I7.unpinned, r7, q7⟩
end

/-! ### the forms one uses -/
end L2

namespace L2
open PySem PySem.Spec PyProof.Rows

abbrev R2 := V → V → Hp → VK → Prop
/-- a two-place operation on values: f is binaryOp op, inplaceOp op or compareOp op -/
def OpR (X : Cx) (f : Value → Value → Sem Value) (r : R2) : Prop :=
  ∀ (pins : List (Addr × Obj)) (s : Shared) (σ : St) (H : Hp) (x y : V) (v u : Value) (Q : VK), Inv X pins σ H s → RelV x v → RelV y u → r x y H Q →
    wpAny (model X.prog X.w) X.A (f v u) (EP X pins σ Q) X.xe s
/-- a one-place operation -/
def UnR (X : Cx) (f : Value → Sem Value) (r : V → Hp → VK → Prop) : Prop :=
  ∀ (pins : List (Addr × Obj)) (s : Shared) (σ : St) (H : Hp) (x : V) (v : Value) (Q : VK), Inv X pins σ H s → RelV x v → r x H Q →
    wpAny (model X.prog X.w) X.A (f v) (EP X pins σ Q) X.xe s
/-- a call of a value that is known (a builtin, a type) with values -/
def CallR (X : Cx) (f : Value) (r : List V → Hp → VK → Prop) : Prop :=
  ∀ (pins : List (Addr × Obj)) (s : Shared) (σ : St) (H : Hp) (xs : List V) (us : List Value) (Q : VK), Inv X pins σ H s → Vals xs us → r xs H Q →
    wpAny (model X.prog X.w) X.A (call f us) (EP X pins σ Q) X.xe s
/-- a value's truth -/
def TruR (X : Cx) (r : V → Hp → (Bool → Hp → Prop) → Prop) : Prop :=
  ∀ (pins : List (Addr × Obj)) (s : Shared) (σ : St) (H : Hp) (x : V) (v : Value) (Q : Bool → Hp → Prop), Inv X pins σ H s → RelV x v → r x H Q →
    wpAny (model X.prog X.w) X.A (truthy v) (TP X pins σ Q) X.xe s

def tOp (r : R2) (ta tb : TE) : TE := fun σ H Q => ta σ H fun x H1 => tb σ H1 fun y H2 => r x y H2 Q
def tUn (r : V → Hp → VK → Prop) (ta : TE) : TE := fun σ H Q => ta σ H fun x H1 => r x H1 Q
/-- ints in, under C, and a value out -/
def rI (C : Int → Int → Prop) (g : Int → Int → V) : R2 := fun x y H Q => ∃ i j, x = .int i ∧ y = .int j ∧ C i j ∧ Q (g i j) H
def rI0 (g : Int → Int → V) : R2 := fun x y H Q => ∃ i j, x = .int i ∧ y = .int j ∧ Q (g i j) H
def rU (g : Int → V) : V → Hp → VK → Prop := fun x H Q => ∃ i, x = .int i ∧ Q (g i) H

section
variable {X : Cx} {a b c : Expr} {ta tb tc : TE} {pos : Pos}

theorem binT (ha : PE X a ta) (hb : PE X b tb) {pins : List (Addr × Obj)} {s : Shared} {σ : St} {H : Hp} {R : V → V → Hp → Prop} (I : Inv X pins σ H s)
    (h : ta σ H fun x H1 => tb σ H1 fun y H2 => R x y H2) {Q : Value → Shared → Prop} {f : Value → Value → Sem Value}
    (hf : ∀ v u s2 x y H2, Inv X pins σ H2 s2 → RelV x v → RelV y u → R x y H2 → wpAny (model X.prog X.w) X.A (f v u) Q X.xe s2) :
    wpAny (model X.prog X.w) X.A (eval a X.env) (fun v s₁ => wpAny (model X.prog X.w) X.A (eval b X.env) (fun u s₂ => wpAny (model X.prog X.w) X.A (f v u) Q X.xe s₂) X.xe s₁) X.xe s := by
  refine thn (ha pins s σ H _ I h) fun v s1 ⟨x, H1, I1, r1, q1⟩ => ?_
  refine thn (hb pins s1 σ H1 _ I1 q1) fun u s2 ⟨y, H2, I2, r2, q2⟩ => ?_
  exact hf v u s2 x y H2 I2 r1 r2 q2

theorem pe_op {op : Operator} {r : R2} (ho : OpR X (binaryOp op) r) (ha : PE X a ta) (hb : PE X b tb) : PE X (.BinOp a op b pos) (tOp r ta tb) := by
  intro pins s σ H Q I h
  exact wpAny_BinOp (binT ha hb I h fun v u s2 x y H2 I2 rx ry q => ho pins s2 σ H2 x y v u Q I2 rx ry q)
theorem pe_un {op : UnaryOp} {r : V → Hp → VK → Prop} (ho : UnR X (unaryOp op) r) (ha : PE X a ta) : PE X (.UnaryOp op a pos) (tUn r ta) := by
  intro pins s σ H Q I h
  exact UnaryOp_ (thn (ha pins s σ H _ I h) fun v s1 ⟨x, H1, I1, r1, q1⟩ => ho pins s1 σ H1 x v Q I1 r1 q1)
/-! ### ints -/
theorem opI {f : Value → Value → Sem Value} {C : Int → Int → Prop} {g : Int → Int → Int}
    (rule : ∀ (i j : Int) (t u : Tok) (s : Shared) (Q : Value → Shared → Prop) (E : Value → Shared → Prop), C i j → Q (.int (g i j) s.toks) { s with toks := s.toks + 1 } → wpAny (model X.prog X.w) X.A (f (.int i t) (.int j u)) Q E s) :
    OpR X f (rI C fun i j => .int (g i j)) := by
  intro pins s σ H x y v u Q I rx ry h
  obtain ⟨i, j, rfl, rfl, hc, q⟩ := h
  obtain ⟨t, rfl⟩ := rx
  obtain ⟨t', rfl⟩ := ry
  exact rule i j t t' s _ _ hc ⟨.int (g i j), H, I.tok _, ⟨_, rfl⟩, q⟩
theorem opI0 {f : Value → Value → Sem Value} {g : Int → Int → Int}
    (rule : ∀ (i j : Int) (t u : Tok) (s : Shared) (Q : Value → Shared → Prop) (E : Value → Shared → Prop), Q (.int (g i j) s.toks) { s with toks := s.toks + 1 } → wpAny (model X.prog X.w) X.A (f (.int i t) (.int j u)) Q E s) :
    OpR X f (rI0 fun i j => .int (g i j)) := by
  intro pins s σ H x y v u Q I rx ry h
  obtain ⟨i, j, rfl, rfl, q⟩ := h
  obtain ⟨t, rfl⟩ := rx
  obtain ⟨t', rfl⟩ := ry
  exact rule i j t t' s _ _ ⟨.int (g i j), H, I.tok _, ⟨_, rfl⟩, q⟩
theorem opB0 {f : Value → Value → Sem Value} {g : Int → Int → Bool}
    (rule : ∀ (i j : Int) (t u : Tok) (s : Shared) (Q : Value → Shared → Prop) (E : Value → Shared → Prop), Q (.bool (g i j)) s → wpAny (model X.prog X.w) X.A (f (.int i t) (.int j u)) Q E s) :
    OpR X f (rI0 fun i j => .bl (g i j)) := by
  intro pins s σ H x y v u Q I rx ry h
  obtain ⟨i, j, rfl, rfl, q⟩ := h
  obtain ⟨t, rfl⟩ := rx
  obtain ⟨t', rfl⟩ := ry
  exact rule i j t t' s _ _ ⟨.bl (g i j), H, I, rfl, q⟩

def CDiv (i j : Int) : Prop := 0 < j ∧ j < 1073741824
def CDivN (i j : Int) : Prop := j ≠ 0 ∧ j.natAbs < 1073741824
def CPow (i j : Int) : Prop := 0 ≤ j ∧ j ≤ 1000000 ∧ i.natAbs < 2 ^ 64
def CMul (i j : Int) : Prop := (-(2 ^ 64) < i ∧ i < 2 ^ 64) ∨ (-(2 ^ 64) < j ∧ j < 2 ^ 64)
theorem CMul.ok {i j : Int} (h : CMul i j) : IntMulOk i j := by
  rcases h with ⟨h1, h2⟩ | ⟨h1, h2⟩
  · exact .of_left (intBits_le_64 h1 h2)
  · exact .of_right (intBits_le_64 h1 h2)
theorem op_add : OpR X (binaryOp .Add) (rI0 fun i j => .int (i + j)) := opI0 fun _ _ _ _ _ _ _ q => add_int q
theorem op_sub : OpR X (binaryOp .Sub) (rI0 fun i j => .int (i - j)) := opI0 fun _ _ _ _ _ _ _ q => sub_int q
theorem op_mul : OpR X (binaryOp .Mult) (rI CMul fun i j => .int (i * j)) := opI fun _ _ _ _ _ _ _ hc q => mul_int q hc.ok
/-- // by a positive divisor -/
theorem op_fdiv : OpR X (binaryOp .FloorDiv) (rI CDiv fun i j => .int (i / j)) := opI fun i j _ _ _ _ _ hc q => by
  have h1 : (0 : Int) < j := hc.1
  have h2 : j < 1073741824 := hc.2
  exact floordiv_int (by omega) (by rw [Int.fdiv_eq_ediv_of_nonneg i (by omega)]; exact q) (.inl (PyProof.noPylong_small (by omega)))
/-- % by a positive divisor of any size -/
theorem op_mod : OpR X (binaryOp .Mod) (rI (fun _ j => 0 < j) fun i j => .int (i % j)) := opI fun i j _ _ _ _ _ hc q => by
  have h1 : (0 : Int) < j := hc
  exact mod_int' (by omega) (by rw [Int.fmod_eq_emod_of_nonneg i (by omega)]; exact q)
theorem op_pow : OpR X (binaryOp .Pow) (rI CPow fun i j => .int (i ^ j.toNat)) := opI fun _ _ _ _ _ _ _ hc q => pow_int_small hc.1 hc.2.1 hc.2.2 q
theorem unI {f : Value → Sem Value} {g : Int → Int}
    (rule : ∀ (i : Int) (t : Tok) (s : Shared) (Q : Value → Shared → Prop) (E : Value → Shared → Prop), Q (.int (g i) s.toks) { s with toks := s.toks + 1 } → wpAny (model X.prog X.w) X.A (f (.int i t)) Q E s) :
    UnR X f (rU fun i => .int (g i)) := by
  intro pins s σ H x v Q I rx h
  obtain ⟨i, rfl, q⟩ := h
  obtain ⟨t, rfl⟩ := rx
  exact rule i t s _ _ ⟨.int (g i), H, I.tok _, ⟨_, rfl⟩, q⟩
theorem un_neg : UnR X (unaryOp .USub) (rU fun i => .int (-i)) := unI fun _ _ _ _ _ q => neg_int q
/-! ### bools among ints: n += (a < b) -/
end

/-! ### comparisons -/
/-- the scalars that == tells apart as data does -/
def scal : V → V → Bool
  | .non, .non => true | .non, .int _ => true | .int _, .non => true | .non, .bl _ => true | .bl _, .non => true | .non, .str _ => true | .str _, .non => true
  | .int _, .int _ => true | .bl _, .bl _ => true | .str _, .str _ => true | .byt _, .byt _ => true
  | .int _, .str _ => true | .str _, .int _ => true | .bl _, .str _ => true | .str _, .bl _ => true
  | _, _ => false
def rEq : R2 := fun x y H Q => scal x y = true ∧ Q (.bl (decide (x = y))) H
def rNe : R2 := fun x y H Q => scal x y = true ∧ Q (.bl (!decide (x = y))) H

section
variable {X : Cx} {a b c : Expr} {ta tb tc : TE} {pos : Pos}
theorem fin_bl {pins : List (Addr × Obj)} {σ : St} {H : Hp} {s : Shared} {Q : VK} {k k' : Bool} (I : Inv X pins σ H s) (q : Q (.bl k) H) (e : k = k') : EP X pins σ Q (.bool k') s := by
  subst e
  exact ⟨.bl k, H, I, rfl, q⟩
theorem op_lt : OpR X (compareOp .Lt) (rI0 fun i j => .bl (decide (i < j))) := opB0 fun _ _ _ _ _ _ _ q => lt_int q
theorem op_le : OpR X (compareOp .LtE) (rI0 fun i j => .bl (decide (i ≤ j))) := opB0 fun _ _ _ _ _ _ _ q => le_int q
theorem op_gt : OpR X (compareOp .Gt) (rI0 fun i j => .bl (decide (j < i))) := opB0 fun _ _ _ _ _ _ _ q => gt_int q
theorem op_ge : OpR X (compareOp .GtE) (rI0 fun i j => .bl (decide (j ≤ i))) := opB0 fun _ _ _ _ _ _ _ q => ge_int q
/-- the one string within the other -/
theorem op_in_str : OpR X (compareOp .In) (fun x y H Q => ∃ i j, x = .str i ∧ y = .str j ∧ Q (.bl (!(Builtin.Str.occurrences j i 0 j.length 1).isEmpty)) H) := by
  intro pins s σ H x y v u Q I rx ry h
  obtain ⟨i, j, rfl, rfl, q⟩ := h
  obtain ⟨t, rfl⟩ := rx
  obtain ⟨t', rfl⟩ := ry
  exact in_str (fin_bl I q rfl)

/-- is None, is not None: the right side a value none -/
theorem op_isN : OpR X (compareOp .Is) (fun x y H Q => y = .non ∧ Q (.bl (decide (x = .non))) H) := by
  intro pins s σ H x y v u Q I rx ry h
  obtain ⟨rfl, q⟩ := h
  cases ry
  refine is_none_gen (fin_bl I q ?_)
  cases x <;> first
    | (cases rx; rfl)
    | (obtain ⟨t, rfl⟩ := rx; rfl)
theorem op_notN : OpR X (compareOp .IsNot) (fun x y H Q => y = .non ∧ Q (.bl (!decide (x = .non))) H) := by
  intro pins s σ H x y v u Q I rx ry h
  obtain ⟨rfl, q⟩ := h
  cases ry
  refine isnot_none_gen (fin_bl I q ?_)
  cases x <;> first
    | (cases rx; rfl)
    | (obtain ⟨t, rfl⟩ := rx; rfl)

theorem op_notin_str : OpR X (compareOp .NotIn) (fun x y H Q => ∃ i j, x = .str i ∧ y = .str j ∧ Q (.bl (!(!(Builtin.Str.occurrences j i 0 j.length 1).isEmpty))) H) := by
  intro pins s σ H x y v u Q I rx ry h
  obtain ⟨i, j, rfl, rfl, q⟩ := h
  obtain ⟨t, rfl⟩ := rx
  obtain ⟨t', rfl⟩ := ry
  exact notIn_str (fin_bl I q rfl)
/-- is, is not of two objects that are tracked lists or instances -/
def isObj : HO → Bool
  | .lst _ => true
  | .ins _ _ _ => true
  | _ => false
/-- two rules for one operation: by cases -/
theorem OpR.or {f : Value → Value → Sem Value} {r r' : R2} (h : OpR X f r) (h' : OpR X f r') : OpR X f (fun x y H Q => r x y H Q ∨ r' x y H Q) := by
  intro pins s σ H x y v u Q I rx ry q
  rcases q with q | q
  · exact h pins s σ H x y v u Q I rx ry q
  · exact h' pins s σ H x y v u Q I rx ry q

theorem nomark (b : Expr) {op : CmpOp} (h : op ≠ .In := by decide) (h2 : op ≠ .NotIn := by decide) : behindInMarks op b = false := by
  have e1 : (op == CmpOp.In) = false := by cases op <;> first | rfl | exact absurd rfl h
  have e2 : (op == CmpOp.NotIn) = false := by cases op <;> first | rfl | exact absurd rfl h2
  cases b <;> simp [behindInMarks, e1, e2]
/-- a comparison as a value; hm: nomark b, or (for in, not in) by with_unfolding_all rfl -/
theorem pe_cmpR {op : CmpOp} {r : R2} (ho : OpR X (compareOp op) r) (ha : PE X a ta) (hb : PE X b tb) (hm : behindInMarks op b = false) : PE X (.Compare a [op] [b] pos) (tOp r ta tb) := by
  intro pins s σ H Q I h
  exact wpAny_Compare1 (binT ha hb I h fun v u s2 x y H2 I2 rx ry q => ho pins s2 σ H2 x y v u Q I2 rx ry q) hm
/-- a reading of a value as a test -/
def tTest (t : TE) : TT := fun σ H Q => t σ H fun x H' => ∃ k, x = .bl k ∧ Q k H'
theorem pt_cmpR {op : CmpOp} {r : R2} (ho : OpR X (compareOp op) r) (ha : PE X a ta) (hb : PE X b tb) (hm : behindInMarks op b = false) : PT X (.Compare a [op] [b] pos) (tTest (tOp r ta tb)) := by
  intro pins s σ H Q I h
  refine wpAny_isTrue_Compare1 (thn (ha pins s σ H _ I h) fun v s1 ⟨x, H1, I1, r1, q1⟩ => thn (hb pins s1 σ H1 _ I1 q1) fun u s2 ⟨y, H2, I2, r2, q2⟩ =>
    thn (ho pins s2 σ H2 x y v u _ I2 r1 r2 q2) fun c s3 ⟨z, H3, I3, r3, k, e, q3⟩ => ?_) hm
  subst e
  cases r3
  exact wpAny_truthy_bool ⟨H3, I3, q3⟩
/-- a op1 b op2 c -/
def tChain (r r' : R2) (ta tb tc : TE) : TE := fun σ H Q => ta σ H fun x H1 => tb σ H1 fun y H2 => r x y H2 fun z H3 => ∃ k, z = .bl k ∧
  (if k = true then tc σ H3 fun w' H4 => r' y w' H4 Q else Q (.bl false) H3)
theorem pe_chain {op op' : CmpOp} {r r' : R2} (ho : OpR X (compareOp op) r) (ho' : OpR X (compareOp op') r') (ha : PE X a ta) (hb : PE X b tb) (hc : PE X c tc)
    (hm : lastMarks [op, op'] [b, c] = false := by with_unfolding_all rfl) : PE X (.Compare a [op, op'] [b, c] pos) (tChain r r' ta tb tc) := by
  intro pins s σ H Q I h
  refine Compare_chain (thn (ha pins s σ H _ I h) fun v s1 ⟨x, H1, I1, r1, q1⟩ => chain_link (thn (hb pins s1 σ H1 _ I1 q1) fun u s2 ⟨y, H2, I2, r2, q2⟩ =>
    thn (ho pins s2 σ H2 x y v u _ I2 r1 r2 q2) fun d s3 ⟨z, H3, I3, r3, k, e, q3⟩ => ?_)) hm
  subst e
  cases r3
  refine wpAny_truthy_bool ?_
  cases k with
  | false => exact ite_ff ⟨.bl false, H3, I3, rfl, q3⟩
  | true => exact ite_tt (chain_last (thn (hc pins s3 σ H3 _ I3 q3) fun w' s4 ⟨z', H4, I4, r4, q4⟩ => ho' pins s4 σ H4 y z' u w' Q I4 r2 r4 q4))
theorem pt_chain {op op' : CmpOp} {r r' : R2} (ho : OpR X (compareOp op) r) (ho' : OpR X (compareOp op') r') (ha : PE X a ta) (hb : PE X b tb) (hc : PE X c tc)
    (hm : lastMarks [op, op'] [b, c] = false := by with_unfolding_all rfl) : PT X (.Compare a [op, op'] [b, c] pos) (tTest (tChain r r' ta tb tc)) := by
  intro pins s σ H Q I h
  refine isTrue_chain (thn (ha pins s σ H _ I h) fun v s1 ⟨x, H1, I1, r1, q1⟩ => test_link (thn (hb pins s1 σ H1 _ I1 q1) fun u s2 ⟨y, H2, I2, r2, q2⟩ =>
    thn (ho pins s2 σ H2 x y v u _ I2 r1 r2 q2) fun d s3 ⟨z, H3, I3, r3, k, e, q3⟩ => ?_)) hm
  subst e
  cases r3
  refine wpAny_truthy_bool ?_
  cases k with
  | false =>
    obtain ⟨k', e', q'⟩ := q3
    cases e'
    exact ite_ff ⟨H3, I3, q'⟩
  | true =>
    refine ite_tt (test_last (thn (hc pins s3 σ H3 _ I3 q3) fun w' s4 ⟨z', H4, I4, r4, q4⟩ => thn (ho' pins s4 σ H4 y z' u w' _ I4 r2 r4 q4) fun d' s5 ⟨z2, H5, I5, r5, k2, e2, q5⟩ => ?_))
    subst e2
    cases r5
    exact wpAny_truthy_bool ⟨H5, I5, q5⟩

/-! ### truth -/
/-- a value's truth by the abstract heap -/
def TruV (K : PySem.W.Frag) (x : V) (H : Hp) (k : Bool) : Prop :=
  match x with
  | .non => k = false
  | .bl b => k = b
  | .int i => k = (i != 0)
  | .str y => y.length ≤ sizeLine ∧ k = ((y.length : Int) != 0)
  | .byt y => y.size ≤ sizeLine ∧ k = ((y.size : Int) != 0)
  | .ref p => (∃ xs, SqL K H p xs ∧ k = !xs.isEmpty) ∨ (∃ xs, SqT K H p xs ∧ k = !xs.isEmpty) ∨ ∃ kvs, H p = some (.dK kvs) ∧ k = !kvs.isEmpty
  | _ => False
theorem line63 : (sizeLine : Nat) < 2 ^ 63 := by rw [sizeLine_eq]; decide
/-! ### strs and bytes -/
theorem op_add_str : OpR X (binaryOp .Add) (fun x y H Q => ∃ i j, x = .str i ∧ y = .str j ∧ i.length + j.length ≤ sizeLine ∧ Q (.str (i ++ j)) H) := by
  intro pins s σ H x y v u Q I rx ry h
  obtain ⟨i, j, rfl, rfl, hz, q⟩ := h
  obtain ⟨t, rfl⟩ := rx
  obtain ⟨t', rfl⟩ := ry
  exact add_str (fun t' tk => ⟨.str (i ++ j), H, I.tok _, ⟨_, rfl⟩, q⟩) hz
def PlainIxT (b : Expr) : Prop := ∀ o i, subscripted b false o i = operate [o, i] (getItem o i)
/-! ### scalar builtins, by CallR -/
theorem vals1 {x : V} {us : List Value} (r : Vals [x] us) : ∃ u, us = [u] ∧ RelV x u := by
  cases r with
  | cons r1 r2 => cases r2; exact ⟨_, rfl, r1⟩
theorem vals2 {x y : V} {us : List Value} (r : Vals [x, y] us) : ∃ u w', us = [u, w'] ∧ RelV x u ∧ RelV y w' := by
  cases r with
  | cons r1 r2 =>
    cases r2 with
    | cons r3 r4 => cases r4; exact ⟨_, _, rfl, r1, r3⟩
theorem call_abs : CallR X (.builtin "abs") (fun xs H Q => ∃ i, xs = [.int i] ∧ Q (.int (if i < 0 then -i else i)) H) := by
  intro pins s σ H xs us Q I r h
  obtain ⟨i, rfl, q⟩ := h
  obtain ⟨u, rfl, t, rfl⟩ := vals1 r
  exact call_abs_int fun u tk => ⟨.int (if i < 0 then -i else i), H, I.tok _, ⟨_, rfl⟩, q⟩
theorem call_int1 : CallR X (.type "int") (fun xs H Q => (∃ i, xs = [.int i] ∧ Q (.int i) H) ∨ ∃ k, xs = [.bl k] ∧ Q (.int (if k then 1 else 0)) H) := by
  intro pins s σ H xs us Q I r h
  rcases h with ⟨i, rfl, q⟩ | ⟨k, rfl, q⟩
  · obtain ⟨u, rfl, t, rfl⟩ := vals1 r
    exact call_int_int ⟨.int i, H, I, ⟨_, rfl⟩, q⟩
  · obtain ⟨u, rfl, r1⟩ := vals1 r
    cases r1
    exact call_int_bool ⟨.int (if k then 1 else 0), H, I.tok _, ⟨_, rfl⟩, q⟩
/-- len of a str, a bytes, a list, a tuple -/
def LenV (K : PySem.W.Frag) (x : V) (H : Hp) (n : Nat) : Prop :=
  match x with
  | .str y => y.length ≤ sizeLine ∧ n = y.length
  | .byt y => y.size ≤ sizeLine ∧ n = y.size
  | .ref p => (∃ xs, SqL K H p xs ∧ n = xs.length) ∨ ∃ xs, SqT K H p xs ∧ n = xs.length
  | _ => False
end
end L2

namespace L2
open PySem PySem.Spec PyProof.Rows

/-! ### an instance, its attributes a map -/
structure ObjM (h : Heap) (x dx C : Addr) (mA : Str → Option Value) : Prop where
  obj : h.get? x = some (PySem.W.instObj C dx)
  ns : h.Ns1 dx mA
  ne : dx ≠ x

section
variable {prog : Program} {w : World} {A : Around} {E : Value → Shared → Prop} {s : Shared} {K : PySem.W.Frag} {x dx C f : Addr} {mA : Str → Option Value} {name : Str} {v : Value}

/-- C(..): the dict at the heap's end, the instance behind it; then its __init__ -/
theorem make_map {R : Result → Shared → Prop} {vs : List Value} {kw : List (Str × Value)} (X : K.In s.heap) (hm : PySem.W.makesIn K C = true)
    (hi : PySem.W.findIn K (.ref C) "__init__" = some (some (.ref f))) (hf : PySem.W.typeIn K (.ref f) = some (.type "function"))
    (h : codeAny (model prog w) (A.under (.builtin "type.__call__" ⟨.ref C :: vs, kw⟩)) (.call (.ref f) ⟨.ref (s.heap.objs.size + 1) :: vs, kw⟩) (PySem.W.InitBack (s.heap.objs.size + 1) R)
      { s with heap := (s.heap.push PySem.W.emptyDict).push (PySem.W.instObj C s.heap.objs.size) }) :
    codeAny (model prog w) A (.call (.ref C) ⟨vs, kw⟩) R s := by
  obtain ⟨hh, g, d, t, os⟩ := s
  exact PySem.W.make_core (PySem.W.makes_of X hm) (PySem.W.looks_findIn X hi) (fun self => PySem.W.bind_fn X self hf) (.inl rfl) h
end

/-! ### the attributes as a list of pairs -/
def putF (f : Str) (v : V) : List (Str × V) → List (Str × V)
  | [] => [(f, v)]
  | (g, x) :: r => if g = f then (g, v) :: r else (g, x) :: putF f v r
section
variable {P : Program} {w : World} {H H' : Hp} {h h' : Heap} {a C dx : Addr} {fs fs' : List (Str × V)}
end

/-! ### what of the text a class must have -/
structure Cls (K : PySem.W.Frag) (C : Addr) : Prop where
  pg : PySem.W.plainGet K C Str.empty = true
  hd : PySem.W.hasDictIn K C = true
  po : PySem.W.plainOver K C = true
  sa : PySem.W.findIn K (.ref C) "__setattr__" = some (some (.builtin "object.__setattr__"))
theorem Cls.get {K : PySem.W.Frag} {C : Addr} (c : Cls K C) (f : Str) : PySem.W.plainGet K C f = true := c.pg
/-- no class of it has the name -/
def NoAttr (K : PySem.W.Frag) (C : Addr) (f : Str) : Prop := PySem.W.findIn K (.ref C) f = some none
/-- a constant of the class -/
structure Con (K : PySem.W.Frag) (C : Addr) (f : Str) (v : V) (u : Value) : Prop where
  at_ : PySem.W.findIn K (.ref C) f = some (some u)
  rel : RelV v u
  get : PySem.W.specialIn K u "__get__" = some none
  cp : PySem.W.copiedNames.contains f = false
/-- a method: a plain def of the class or of one above it -/
structure Meth (K : PySem.W.Frag) (C : Addr) (m : Str) (f : Addr) : Prop where
  at_ : PySem.W.findIn K (.ref C) m = some (some (.ref f))
  fn : PySem.W.isFn K (.ref f) = true
  kp : PySem.W.keepIn K (.ref f) = true

section
variable {X : Cx} {pins : List (Addr × Obj)} {σ : St} {H : Hp} {s : Shared} {a C dx : Addr} {fs : List (Str × V)} {f : Str} {v : V} {A : Around} {E : Value → Shared → Prop}

/-- a new instance, tracked, without attributes -/
theorem Inv.made (I : Inv X pins σ H s) : Inv X pins σ (upd (upd H s.heap.objs.size (.own (s.heap.objs.size + 1))) (s.heap.objs.size + 1) (.ins C s.heap.objs.size []))
    { s with heap := (s.heap.push PySem.W.emptyDict).push (PySem.W.instObj C s.heap.objs.size) } := by
  have e1 : (s.heap.push PySem.W.emptyDict).get? s.heap.objs.size = some PySem.W.emptyDict := Heap.get?_push_size s.heap rfl
  have e2 : ((s.heap.push PySem.W.emptyDict).push (PySem.W.instObj C s.heap.objs.size)).get? (s.heap.objs.size + 1) = some (PySem.W.instObj C s.heap.objs.size) := by
    have := Heap.get?_push_size (s.heap.push PySem.W.emptyDict) (o := PySem.W.instObj C s.heap.objs.size) rfl
    rwa [Heap.size_push] at this
  have e3 : (s.heap.push PySem.W.emptyDict).Ns s.heap.objs.size (fun _ => none) := ⟨PySem.W.emptyDict, #[], _, e1, rfl, (fun e he => absurd he (by simp)), fun _ => rfl⟩
  have I1 := I.laid (a := s.heap.objs.size) (o := .own (s.heap.objs.size + 1)) (h' := s.heap.push PySem.W.emptyDict) (t' := s.toks) (fun b u q => Heap.get?_push_of_some _ q) (Nat.le_refl _) ⟨_, e1⟩
  refine I1.laid (a := s.heap.objs.size + 1) (o := .ins C s.heap.objs.size []) (t' := s.toks) (fun b u q => Heap.get?_push_of_some _ q) (Nat.le_of_eq (Heap.size_push _ _)) ?_
  have ne : s.heap.objs.size ≠ s.heap.objs.size + 1 := Nat.ne_of_lt (Nat.lt_succ_self _)
  refine ⟨by rw [upd_ne ne, upd_same], Nat.zero_le _, ne, e2, fun _ => none, (Heap.Ns1.of_empty e3).at fun o q => Heap.get?_push_of_some _ q, fun _ => True.intro, fun y hy => absurd rfl hy⟩

end

/-! ### readings and rules -/
/-- e.f, an attribute of the instance -/
def tFld (K : PySem.W.Frag) (ta : TE) (f : Str) : TE := fun σ H Q => ta σ H fun x H1 => ∃ a C dx fs v, x = .ref a ∧ H1 a = some (.ins C dx fs) ∧ Cls K C ∧ NoAttr K C f ∧ fs.lookup f = some v ∧ Q v H1
/-- e.f, a constant of the class -/
def tCon (K : PySem.W.Frag) (ta : TE) (f : Str) : TE := fun σ H Q => ta σ H fun x H1 => ∃ a C dx fs v u, x = .ref a ∧ H1 a = some (.ins C dx fs) ∧ Cls K C ∧ Con K C f v u ∧ fs.lookup f = none ∧ Q v H1
/-- e.f = value -/
def sFld (K : PySem.W.Frag) (ta tv : TE) (f : Str) : TS := fun D σ H => tv σ H fun y H1 => ta σ H1 fun x H2 => ∃ a C dx fs, x = .ref a ∧ H2 a = some (.ins C dx fs) ∧ Cls K C ∧ NoAttr K C f ∧ fs.length < 1000 ∧
  D.nx σ (upd H2 a (.ins C dx (putF f y fs)))
/-- an augmented operator on two values -/
def InOp (X : Cx) (op : Operator) (rd : V → V → Hp → VK → Prop) : Prop :=
  ∀ (pins : List (Addr × Obj)) (s : Shared) (σ : St) (H : Hp) (x y : V) (u v : Value) (Q : VK), Inv X pins σ H s → RelV x u → RelV y v → rd x y H Q → wpAny (model X.prog X.w) X.A (inplaceOp op u v) (EP X pins σ Q) X.xe s
/-- e.f op= value -/
def sFldAug (K : PySem.W.Frag) (ta tv : TE) (rd : V → V → Hp → VK → Prop) (f : Str) : TS := fun D σ H => ta σ H fun x H1 => ∃ a C dx fs v, x = .ref a ∧ H1 a = some (.ins C dx fs) ∧ Cls K C ∧ NoAttr K C f ∧ fs.lookup f = some v ∧
  tv σ H1 fun y H2 => rd v y H2 fun z H3 => ∃ dx' fs', H3 a = some (.ins C dx' fs') ∧ fs'.length < 1000 ∧ D.nx σ (upd H3 a (.ins C dx' (putF f z fs')))

section
variable {X : Cx} {o e value : Expr} {f : Str} {pos pos' tpos : Pos} {ta tv : TE}
def rAdd : V → V → Hp → VK → Prop := fun x y H Q => ∃ i j, x = .int i ∧ y = .int j ∧ Q (.int (i + j)) H
def rSub : V → V → Hp → VK → Prop := fun x y H Q => ∃ i j, x = .int i ∧ y = .int j ∧ Q (.int (i - j)) H
end

/-! ### isinstance -/
section
variable {X : Cx} {pins : List (Addr × Obj)} {σ : St} {H : Hp} {s : Shared} {A : Around} {E : Value → Shared → Prop} {Q : Value → Shared → Prop} {c : Value} {b : Bool}
/-- the type of a value, as the fragment's deciders take it; for an instance its class -/
inductive TyOf (K : PySem.W.Frag) (H : Hp) : V → Value → Prop where
  | non : TyOf K H .non (.type "NoneType")
  | bl (x : Bool) : TyOf K H (.bl x) (.type "bool")
  | int (i : Int) : TyOf K H (.int i) (.type "int")
  | str (x : Str) : TyOf K H (.str x) (.type "str")
  | flt (x : UInt64) : TyOf K H (.flt x) (.type "float")
  | lst {a : Addr} {xs : List V} (e : H a = some (.lst xs)) : TyOf K H (.ref a) (.type "list")
  | frz {a : Addr} {o : Obj} {xs : List V} (e : H a = some (.frz o (.lst xs))) : TyOf K H (.ref a) (.type "list")
  | tup {a : Addr} {xs : List V} (e : H a = some (.tup xs)) : TyOf K H (.ref a) (.type "tuple")
  | dK {a : Addr} {kvs : List (Key × V)} (e : H a = some (.dK kvs)) : TyOf K H (.ref a) (.type "dict")
  | dT {a : Addr} {kvs : List (List Key × V)} (e : H a = some (.dT kvs)) : TyOf K H (.ref a) (.type "dict")
  | ins {a C dx : Addr} {fs : List (Str × V)} (e : H a = some (.ins C dx fs)) (cl : Cls K C) (ha : PySem.W.findIn K (.ref C) "__class__" = some (some (.builtin "object.__class__")))
      (hn : PySem.W.specialIn K (.builtin "object.__class__") "__get__" = some (some (.builtin "getset_descriptor.__get__"))) (htk : PySem.W.takesIn K (.builtin "object.__class__") = some true)
      (hm : PySem.W.mroIn K C (.type "object") = some true) : TyOf K H (.ref a) (.ref C)
end
end L2

namespace L2
open PySem PySem.Spec PyProof.Rows

/-! ### room -/
structure Room (qt : Bool) (k : Nat) (A : Around) : Prop where
  hd : qt = false → A.handled = none
  dp : A.depth + 3 * k + 5 < recursionLimit
  un : A.units + 16 * k + 200 < cLine
theorem Room.mono {j k : Nat} {A : Around} (r : Room qt k A) (h : j ≤ k) : Room qt j A := ⟨r.hd, by have := r.dp; omega, by have := r.un; omega⟩
theorem Room.deeper {k : Nat} {A : Around} (r : Room qt (k + 1) A) (env : Env) : Room qt k (A.deeper env) :=
  ⟨r.hd, by have := r.dp; show A.depth + 1 + 3 * k + 5 < _; omega, by have := r.un; show A.units + 3 + 16 * k + 200 < _; omega⟩
theorem Room.in1 {k : Nat} {A : Around} (r : Room qt (k + 1) A) : Room qt k A.in1 :=
  ⟨r.hd, by have := r.dp; show A.depth + 3 * k + 5 < _; omega, by have := r.un; show A.units + 1 + 16 * k + 200 < _; omega⟩
theorem make_depth {A : Around} {C : Addr} {us : List Value} {kw : List (Str × Value)} : (A.under (.builtin "type.__call__" ⟨.ref C :: us, kw⟩)).depth = A.depth + 1 := by
  first | rfl | simp [Around.under, Code.weight, Code.isCreation, Code.isGuard, Code.isCaller, Code.frames, Code.isFrame, guardIds]
theorem make_units {A : Around} {C : Addr} {us : List Value} {kw : List (Str × Value)} : (A.under (.builtin "type.__call__" ⟨.ref C :: us, kw⟩)).units = A.units + 1 := by
  first | rfl | simp [Around.under, Code.cUnits, Code.frames, Code.isFrame]
theorem Room.make {k : Nat} {A : Around} (r : Room qt (k + 1) A) (C : Addr) (us : List Value) (kw : List (Str × Value)) : Room qt k (A.under (.builtin "type.__call__" ⟨.ref C :: us, kw⟩)) :=
  ⟨r.hd, by have := r.dp; rw [make_depth]; omega, by have := r.un; rw [make_units]; omega⟩
theorem Room.depth {k : Nat} {A : Around} (r : Room qt k A) : A.depth < recursionLimit := by have := r.dp; omega
theorem Room.units {k : Nat} {A : Around} (r : Room qt k A) : A.units + 64 < cLine := by have := r.un; omega
/-! ### argument lists and displays -/
def tNil : TA := fun _ H Q => Q [] H
def tCons (ta : TE) (tr : TA) : TA := fun σ H Q => ta σ H fun x H1 => tr σ H1 fun xs H2 => Q (x :: xs) H2
section
variable {X : Cx} {e : Expr} {es : List Expr} {te : TE} {t : TA} {pos : Pos}
theorem pa_nil : PA X [] tNil := fun _ _ _ _ H Q I h => Calls.spliced_nil ⟨[], H, I, .nil, h⟩
theorem pa_cons (ha : PE X e te) (hr : PA X es t) (hs : starEach (e :: es) X.env = (false, eval e X.env) :: starEach es X.env := by rfl) : PA X (e :: es) (tCons te t) := by
  intro pos pins s σ H Q I h
  rw [hs]
  show wpAny _ _ (spliced ((false, eval e X.env) :: backTo pos (starEach es X.env))) _ _ s
  refine Calls.spliced_cons (thn (ha pins s σ H _ I h) fun u s1 ⟨x, H1, I1, r1, q1⟩ => ?_)
  exact thn (hr pos pins s1 σ H1 _ I1 q1) fun us s2 ⟨xs, H2, I2, r2, q2⟩ => ⟨x :: xs, H2, I2, .cons r1 r2, q2⟩

/-- a tuple, a list of written items -/
def tTup (t : TA) : TE := fun σ H Q => t σ H fun xs H1 => xs.length ≤ sizeLine ∧ ∀ p, H1 p = none → Q (.ref p) (upd H1 p (.tup xs))
def tLst (t : TA) : TE := fun σ H Q => t σ H fun xs H1 => xs.length ≤ sizeLine ∧ ∀ p, H1 p = none → Q (.ref p) (upd H1 p (.lst xs))
theorem pe_tup {x1} (h : PA X es t) : PE X (.Tuple es x1 pos) (tTup t) := by
  intro pins s σ H Q I hq
  refine wpAny_Tuple_spliced (thn (h pos pins s σ H _ I hq) fun us s1 ⟨xs, H1, I1, r, z, q⟩ => ⟨by rw [← r.length]; exact z, ?_⟩)
  have hf : H1 s1.heap.objs.size = none := I1.hok.fresh (Nat.le_refl _)
  refine ⟨.ref s1.heap.objs.size, upd H1 s1.heap.objs.size (.tup xs), I1.laid (t' := s1.toks) (fun b u e => Heap.get?_push_of_some _ e) (Nat.le_refl _) ?_, rfl, q _ hf⟩
  exact ⟨z, us, r, ⟨_, Heap.get?_push_size _ rfl, rfl, _, rfl⟩⟩
theorem pe_lst (h : PA X es t) : PE X (.List es pos) (tLst t) := by
  intro pins s σ H Q I hq
  refine wpAny_List_spliced (thn (h pos pins s σ H _ I hq) fun us s1 ⟨xs, H1, I1, r, z, q⟩ => ⟨by rw [← r.length]; exact z, ?_⟩)
  have hf : H1 s1.heap.objs.size = none := I1.hok.fresh (Nat.le_refl _)
  refine ⟨.ref s1.heap.objs.size, upd H1 s1.heap.objs.size (.lst xs), I1.laid (t' := s1.toks) (fun b u e => Heap.get?_push_of_some _ e) (Nat.le_refl _) ?_, rfl, q _ hf⟩
  exact ⟨z, us, 0, r, Heap.get?_push_size _ rfl⟩
end

/-! ### what a def promises -/
/-- a def's promise: the bound arguments in the parameters' order, the heap, the wanted end, the wanted exception -/
abbrev Sp := List V → Hp → VK → XK → Prop
/-- how an exception lies behind a call (file 08 gives it): the callers' frames, abstract heap and state ahead of the call, the wish, the exception, the state -/
abbrev CXT := List Env → Hp → Shared → XK → Value → Shared → Prop

/-- the state at a call -/
structure Env0 (P : Program) (w : World) (K : PySem.W.Frag) (mg : Str → Option Value) (base : Heap) (A : Around) (outer : List Env) (s : Shared) (H : Hp) : Prop where
  frames : A.frames = some outer
  mod : Mod K mg base
  bs : ∀ b o, base.get? b = some o → s.heap.get? b = some o ∧ H b = none
  bsz : base.objs.size ≤ s.heap.objs.size
  funs : s.heap.FunFrames base outer
  frf : ∀ b ∈ frs outer, H b = none
  hok : HOk P w H s.heap
  bare : AllBare s.gens
  hnd : Hnd A H
/-- a call's end -/
def CE (outer : List Env) (P : Program) (w : World) (H : Hp) (s : Shared) (Q : VK) (u : Value) (s' : Shared) : Prop :=
  ∃ v H', s'.os = s.os ∧ AllBare s'.gens ∧ Un (frs outer) [] H H' s.heap s'.heap ∧ HOk P w H' s'.heap ∧ RelV v u ∧ Q v H'
def CR (CX : CXT) (outer : List Env) (P : Program) (w : World) (H : Hp) (s : Shared) (Q : VK) (E : XK) (r : Result) (s' : Shared) : Prop :=
  match r with
  | .ok (.ret u) => CE outer P w H s Q u s'
  | .ok _ => False
  | .error e => CX outer H s E e s'
structure FnOk (qt : Bool) (P : Program) (w : World) (K : PySem.W.Frag) (mg : Str → Option Value) (base : Heap) (CX : CXT) (k : Nat) (f : Addr) (fd : FuncData) (ps : List Str) (sp : Sp) : Prop where
  len : ∀ vs H Q E, sp vs H Q E → vs.length = ps.length
  run : ∀ (A : Around) (outer : List Env) (s : Shared) (H : Hp) (args : Args) (us : List Value) (vs : List V) (Q : VK) (E : XK), Room qt k A → Env0 P w K mg base A outer s H → BindsTo s fd args (ps.zip us) → Vals vs us → sp vs H Q E →
    codeAny (model P w) A (.call (.ref f) args) (CR CX outer P w H s Q E) s
theorem FnOk.mono {P : Program} {w : World} {K : PySem.W.Frag} {mg : Str → Option Value} {base : Heap} {CX : CXT} {j k : Nat} {f : Addr} {fd : FuncData} {ps : List Str} {sp : Sp} (F : FnOk qt P w K mg base CX j f fd ps sp) (h : j ≤ k) :
    FnOk qt P w K mg base CX k f fd ps sp := ⟨F.len, fun A outer s H args us vs Q E hr => F.run A outer s H args us vs Q E (hr.mono h)⟩
/-- a weaker promise -/
theorem FnOk.imp {P : Program} {w : World} {K : PySem.W.Frag} {mg : Str → Option Value} {base : Heap} {CX : CXT} {k : Nat} {f : Addr} {fd : FuncData} {ps : List Str} {sp sp' : Sp} (F : FnOk qt P w K mg base CX k f fd ps sp)
    (h : ∀ vs H Q E, sp' vs H Q E → sp vs H Q E) : FnOk qt P w K mg base CX k f fd ps sp' :=
  ⟨fun vs H Q E q => F.len vs H Q E (h _ _ _ _ q), fun A outer s H args us vs Q E hr he hb hv hs => F.run A outer s H args us vs Q E hr he hb hv (h _ _ _ _ hs)⟩

theorem Env0.make {P : Program} {w : World} {K : PySem.W.Frag} {mg : Str → Option Value} {base : Heap} {A : Around} {outer : List Env} {s : Shared} {H : Hp} (e : Env0 P w K mg base A outer s H) (C : Addr) (us : List Value) (kw : List (Str × Value)) :
    Env0 P w K mg base (A.under (.builtin "type.__call__" ⟨.ref C :: us, kw⟩)) outer s H := ⟨by first | exact e.frames | (simpa [Around.under, Code.envs, Code.isFrame, pushEnvs] using e.frames), e.mod, e.bs, e.bsz, e.funs, e.frf, e.hok, e.bare, e.hnd⟩
theorem Env0.in1 {P : Program} {w : World} {K : PySem.W.Frag} {mg : Str → Option Value} {base : Heap} {A : Around} {outer : List Env} {s : Shared} {H : Hp} (e : Env0 P w K mg base A outer s H) :
    Env0 P w K mg base A.in1 outer s H := ⟨e.frames, e.mod, e.bs, e.bsz, e.funs, e.frf, e.hok, e.bare, e.hnd⟩

section
variable {X : Cx} {pins : List (Addr × Obj)} {σ : St} {H : Hp} {s s' : Shared}
/-- from a body: what a callee wants -/
theorem Inv.env0 (I : Inv X pins σ H s) : Env0 X.prog X.w X.K X.mg X.base X.A X.stack s H :=
  ⟨I.ok.frames, I.ok.mod, I.bs, Nat.le_trans I.ok.bsz I.sz, I.stack, I.stkFree, I.hok, I.bare, I.hnd⟩
/-- behind a call -/
theorem Inv.after {Q : VK} {u : Value} (I : Inv X pins σ H s) (h : CE X.stack X.prog X.w H s Q u s') : EP X pins σ Q u s' := by
  obtain ⟨v, H', os, bare, un, hok, r, q⟩ := h
  obtain ⟨hh, g, d, t, os'⟩ := s'
  obtain rfl : os' = s.os := os
  exact ⟨v, H', I.call (h' := hh) (g' := g) (d' := d) (t' := t) (ch := []) un hok bare (fun b z => absurd z (by simp)), r, q⟩
end

/-! ### calls -/
/-- f(..): the written arguments, then the defaults dvs; E: what is wanted of an exception -/
def tCall (sp : Sp) (dvs : List V) (E : XK) (t : TA) : TE := fun σ H Q => t σ H fun vs H1 => sp (vs ++ dvs) H1 Q E
/-- o.m(..) of an instance of the class at C -/
def tMeth (C : Addr) (m : Str) (sp : Sp) (dvs : List V) (E : XK) (ta : TE) (t : TA) : TE := fun σ H Q => ta σ H fun x H1 => ∃ a dx fs, x = .ref a ∧ H1 a = some (.ins C dx fs) ∧ fs.lookup m = none ∧
  t σ H1 fun vs H2 => sp (x :: (vs ++ dvs)) H2 Q E
/-- C(..): a new instance and its dict, then __init__ -/
def tMake (C : Addr) (sp : Sp) (dvs : List V) (E : XK) (t : TA) : TE := fun σ H Q => t σ H fun vs H1 => ∀ x dx, H1 x = none → H1 dx = none → dx ≠ x →
  sp (.ref x :: (vs ++ dvs)) (upd (upd H1 dx (.own x)) x (.ins C dx [])) (fun v H2 => v = .non ∧ Q (.ref x) H2) E

/-- how the parameters are bound: us the positional arguments, kw the keywords' values by name, ds the defaults that fill up -/
def Binds (K : PySem.W.Frag) (fd : FuncData) (ps : List Str) (ds : List Value) : Prop :=
  ∀ (s : Shared) (us : List Value), K.In s.heap → (us ++ ds).length = ps.length → BindsTo s fd ⟨us, []⟩ (ps.zip (us ++ ds))
/-- every parameter is given -/
theorem Binds.all {K : PySem.W.Frag} {fd : FuncData} {ps : List Str} (h : ∀ us : List Value, us.length = ps.length → bindArgs fd ⟨us, []⟩ = pure (ps.zip us)) : Binds K fd ps [] := fun s us _ hl => by
  rw [List.append_nil] at hl ⊢
  exact .of_eq (h us hl)

/-- an exception of a callee reaches what this body wants of exceptions -/
def Passes (CX : CXT) (X : Cx) (E : XK) : Prop := ∀ (pins : List (Addr × Obj)) (σ : St) (H : Hp) (s : Shared) (e : Value) (s' : Shared), Inv X pins σ H s → CX X.stack H s E e s' → X.xe e s'

section
variable {X : Cx} {CX : CXT} {k : Nat} {f C : Addr} {fd : FuncData} {ps : List Str} {sp : Sp} {dvs : List V} {ds : List Value} {E : XK} {x m : Str} {p pos apos : Pos} {e o : Expr} {es : List Expr} {ta : TE} {t : TA}

/-- what a class must have to be made -/
structure Mk (K : PySem.W.Frag) (C f : Addr) : Prop where
  makes : PySem.W.makesIn K C = true
  init : PySem.W.findIn K (.ref C) "__init__" = some (some (.ref f))
  fn : PySem.W.isFn K (.ref f) = true
  kp : PySem.W.keepIn K (.ref C) = true

end

/-! ### keywords -/
/-- the values of the keywords, from the left -/
def PK (X : Cx) (kws : List Keyword) (t : TA) : Prop :=
  ∀ (pos : Pos) (pins : List (Addr × Obj)) (s : Shared) (σ : St) (H : Hp) (Q : List V → Hp → Prop), Inv X pins σ H s → t σ H Q → wpAny (model X.prog X.w) X.A (evalAll ((backToKw pos (keywordEach kws X.env)).map (·.2))) (AP X pins σ Q) X.xe s
section
variable {X : Cx} {CX : CXT} {k : Nat} {f C : Addr} {fd : FuncData} {ps ks : List Str} {sp : Sp} {E : XK} {x m : Str} {p pos apos kpos : Pos} {e o : Expr} {es : List Expr} {kws : List Keyword} {te ta : TE} {t tk : TA} {nm : Option Str}
/-- how a call with keywords binds: g puts the positional values us and the keywords' values ws (names ks) in the parameters' order, defaults among them -/
structure KBinds (K : PySem.W.Frag) (fd : FuncData) (ps ks : List Str) (g : List Value → List Value → List Value) (gV : List V → List V → List V) : Prop where
  to : ∀ (s : Shared) (us ws : List Value), K.In s.heap → (g us ws).length = ps.length → BindsTo s fd ⟨us, ks.zip ws⟩ (ps.zip (g us ws))
  rel : ∀ {vs : List V} {us : List Value} {zs : List V} {ws : List Value}, Vals vs us → Vals zs ws → Vals (gV vs zs) (g us ws)
def tCallK (sp : Sp) (gV : List V → List V → List V) (E : XK) (t tk : TA) : TE := fun σ H Q => t σ H fun vs H1 => tk σ H1 fun zs H2 => sp (gV vs zs) H2 Q E
variable {g : List Value → List Value → List Value} {gV : List V → List V → List V}
end

/-! ### a def's body keeps its promise -/
/-- names: the parameters first -/
structure FnScope (N P : List Str) (sc : Scope) : Prop where
  kind : sc.kind = .function
  co : sc.isCoroutine = false
  gen : sc.isGenerator = false
  nd : N.Nodup
  pre : N.take P.length = P
  par : ∀ x ∈ P, sc.names.lookup x = some .local ∨ sc.names.lookup x = some .cell
  nofree : ∀ y ∈ sc.names, y.2 ≠ .free

theorem bindL_out {kindOf : Str → Option NameKind} {x : Str} : ∀ {binds : List (Str × Value)} {m : Str → Option Value}, (∀ v, (x, v) ∉ binds) → bindL kindOf binds m x = m x
  | [], _, _ => rfl
  | (n, v) :: r, m, h => by
    unfold bindL
    rw [bindL_out fun w hw => h w (List.mem_cons_of_mem _ hw)]
    split
    · have : x ≠ n := by rintro rfl; exact h v List.mem_cons_self
      simp [this]
    · rfl
theorem bindC_out {kindOf : Str → Option NameKind} {x : Str} : ∀ {binds : List (Str × Value)} {m : Str → Option Value}, (∀ v, (x, v) ∉ binds) → bindC kindOf binds m x = m x
  | [], _, _ => rfl
  | (n, v) :: r, m, h => by
    unfold bindC
    rw [bindC_out fun w hw => h w (List.mem_cons_of_mem _ hw)]
    split
    · rfl
    · have : x ≠ n := by rintro rfl; exact h v List.mem_cons_self
      simp [this]
theorem bindL_get {kindOf : Str → Option NameKind} {x : Str} {v : Value} : ∀ {P : List Str} {vs : List Value} {i : Nat} {m : Str → Option Value}, P.Nodup → P[i]? = some x → vs[i]? = some v → kindOf x = some .local →
    bindL kindOf (P.zip vs) m x = some v
  | [], _, _, _, _, h, _, _ => by simp at h
  | _ :: _, [], _, _, _, _, h, _ => by simp at h
  | p :: P, w :: vs, 0, m, nd, h1, h2, hk => by
    simp at h1 h2; subst h1; subst h2
    show bindL kindOf ((p, w) :: P.zip vs) m p = _
    unfold bindL
    rw [bindL_out fun v hv => (List.nodup_cons.mp nd).1 (List.of_mem_zip hv).1, if_pos hk]
    simp
  | p :: P, w :: vs, i + 1, m, nd, h1, h2, hk => by
    show bindL kindOf ((p, w) :: P.zip vs) m x = _
    unfold bindL
    exact bindL_get (i := i) (List.nodup_cons.mp nd).2 (by simpa using h1) (by simpa using h2) hk
theorem bindC_get {kindOf : Str → Option NameKind} {x : Str} {v : Value} : ∀ {P : List Str} {vs : List Value} {i : Nat} {m : Str → Option Value}, P.Nodup → P[i]? = some x → vs[i]? = some v → kindOf x ≠ some .local →
    bindC kindOf (P.zip vs) m x = some v
  | [], _, _, _, _, h, _, _ => by simp at h
  | _ :: _, [], _, _, _, _, h, _ => by simp at h
  | p :: P, w :: vs, 0, m, nd, h1, h2, hk => by
    simp at h1 h2; subst h1; subst h2
    show bindC kindOf ((p, w) :: P.zip vs) m p = _
    unfold bindC
    rw [bindC_out fun v hv => (List.nodup_cons.mp nd).1 (List.of_mem_zip hv).1, if_neg hk]
    simp
  | p :: P, w :: vs, i + 1, m, nd, h1, h2, hk => by
    show bindC kindOf ((p, w) :: P.zip vs) m x = _
    unfold bindC
    exact bindC_get (i := i) (List.nodup_cons.mp nd).2 (by simpa using h1) (by simpa using h2) hk

/-- the names' values at the entry -/
def start (N : List Str) (vs : List V) : St := vs.map some ++ List.replicate (N.length - vs.length) none

/-- the context of a def's body, at its entry; an exception leaves the frame, then lies as CX says -/
def cxOf (qt : Bool) (CX : CXT) (P : Program) (w : World) (K : PySem.W.Frag) (mg : Str → Option Value) (base : Heap) (N : List Str) (qual : Str) (scope : Scope) (f : Addr) (cd : Value) (A : Around) (outer : List Env) (s : Shared) (H : Hp) (E : XK) : Cx where
  prog := P
  w := w
  K := K
  mg := mg
  base := base
  A := A.deeper (envOfC qual scope s.heap.objs.size f cd)
  N := N
  s₀ := s
  H₀ := H
  env := envOfC qual scope s.heap.objs.size f cd
  outer := outer
  stack := envOfC qual scope s.heap.objs.size f cd :: outer
  ex := []
  calm := !qt
  fn := fun _ => true
  pn := []
  tp := []
  xe := fun e s' => wpAny (model P w) (A.deeper (envOfC qual scope s.heap.objs.size f cd)) (leaving (envOfC qual scope s.heap.objs.size f cd) e) (fun _ s'' => CX outer H s E e s'') (fun e' s'' => CX outer H s E e' s'') s'

theorem cell_has {sc : Scope} {n : Nat} {x : Str} (h : sc.names.lookup x = some .cell) : ∃ c, (cellsFrom n sc.names []).lookup x = some c := by
  have q := PySem.W.cellsFrom_some sc.names n [] (.inl h)
  exact Option.isSome_iff_exists.mp q

theorem inv_start {CX : CXT} {P : Program} {w : World} {K : PySem.W.Frag} {mg : Str → Option Value} {base : Heap} {N ps : List Str} {qual : Str} {scope : Scope} {f : Addr} {cd : Value} {A : Around} {outer : List Env} {s s1 : Shared} {H : Hp} {E : XK} {us : List Value} {vs : List V}
    (S : FnScope N ps scope) (hd : qt = false → A.handled = none) (e0 : Env0 P w K mg base A outer s H) (hl : vs.length = ps.length) (r : Vals vs us)
    (x : InCallC s s.heap.objs.size (bindL (envOfC qual scope s.heap.objs.size f cd).kindOf (ps.zip us) fun _ => none) (cellsFrom (s.heap.objs.size + 1) scope.names []) (bindC (envOfC qual scope s.heap.objs.size f cd).kindOf (ps.zip us) fun _ => none) s1) :
    Inv (cxOf qt CX P w K mg base N qual scope f cd A outer s H E) [] (start N vs) H s1 := by
  have hpl : ps.length ≤ N.length := by have := congrArg List.length S.pre; rw [List.length_take] at this; omega
  obtain ⟨h1, tk, rfl, hk⟩ := x.done
  have noA : ∀ b : Addr, b ∉ (cxOf qt CX P w K mg base N qual scope f cd A outer s H E).ex := fun b z => absurd (show b ∈ ([] : List Addr) from z) (by simp)
  refine ⟨⟨e0.mod, S.kind, rfl, rfl, Nat.le_refl _, fun y z c h1 h2 => ?_, fun y hy => ?_, fun y c _ h => ?_, fun z => hd (by cases qt with | false => rfl | true => cases z), Around.frames_deeper e0.frames, .inr ⟨rfl, rfl⟩, fun b z => absurd z (noA b), e0.bs, e0.bsz, fun b _ _ => noA b, fun b z => absurd z (noA b), e0.funs, e0.frf⟩,
    rfl, e0.bare, Un.kept hk, ⟨_, x.toInCall.ns, fun i y v h1 h2 h3 => ?_⟩, fun y c h => ⟨_, x.cell y c h⟩, e0.hok.fresh (Nat.le_refl _), fun y c h => ?_, fun p hp => absurd (show p ∈ ([] : List (Addr × Obj)) from hp) (by simp), e0.hok.kept hk, ?_, e0.hnd, fun p hp => absurd (show p ∈ ([] : List (Addr × List V)) from hp) (by simp)⟩
  · exact name_of_addr x.apart (PySem.mem_of_lookup h1) (PySem.mem_of_lookup h2)
  · have hy : scope.names.lookup y = some .cell ∨ scope.names.lookup y = some .free := hy
    rcases hy with hy | hy
    · exact cell_has hy
    · exact absurd rfl (S.nofree _ (PySem.mem_of_lookup hy))
  · exact Nat.le_of_lt (x.above y c (PySem.mem_of_lookup h))
  · have hi : i < vs.length := by
      unfold start at h2
      by_cases hi : i < vs.length
      · exact hi
      · rw [List.getElem?_append_right (by simpa using hi)] at h2
        rw [List.getElem?_replicate] at h2
        split at h2 <;> cases h2
    have ha : vs[i]? = some v := by
      unfold start at h2
      rw [List.getElem?_append_left (by simpa using hi), List.getElem?_map] at h2
      cases e : vs[i]? with
      | none => rw [e] at h2; cases h2
      | some a => rw [e] at h2; cases h2; rfl
    obtain ⟨u, hu, rv⟩ := r.get ha
    have hp : ps[i]? = some y := by
      rw [← S.pre, List.getElem?_take_of_lt (by omega)]; exact h1
    have ndP : ps.Nodup := by rw [← S.pre]; exact S.nd.sublist (List.take_sublist _ _)
    refine ⟨u, rv, ?_⟩
    rcases S.par y (List.mem_of_getElem? hp) with k | k
    · exact .inl ⟨k, bindL_get ndP hp hu k⟩
    · obtain ⟨c, e⟩ := cell_has (n := s.heap.objs.size + 1) k
      refine .inr ⟨.inl k, c, e, ?_⟩
      have q := x.cell y c e
      rw [bindC_get ndP hp hu (by show scope.names.lookup y ≠ _; rw [k]; decide)] at q
      exact q
  · exact e0.hok.fresh (Nat.le_of_lt (x.above y c (PySem.mem_of_lookup h)))
  · unfold start
    show _ = N.length
    rw [List.length_append, List.length_map, List.length_replicate]
    omega

/-- THE RULE: a def (or a method) of the text, by its body. The body's reading t is chosen for each entry; it is run at the parameters' values -/
theorem fn_of {CX : CXT} {P : Program} {w : World} {K : PySem.W.Frag} {mg : Str → Option Value} {base : Heap} {k : Nat} {f : Addr} {name qual : Str} {params : Arguments} {body : List Stmt} {scope : Scope} {dV kV doc pm cdv ct oc : Value} {an od : Option Addr}
    {osl : Array (Option Value)} {N ps : List Str} {sp : Sp} (lk : K.lookup f = some ⟨oc, od, .func (PySem.W.fnOf name qual params body scope dV kV doc pm an cdv ct), osl⟩) (hcd : PySem.W.codeIn K cdv qual = true) (S : FnScope N ps scope)
    (len : ∀ vs H Q E, sp vs H Q E → vs.length = ps.length)
    (hbody : ∀ (A : Around) (outer : List Env) (s : Shared) (H : Hp) (vs : List V) (Q : VK) (E : XK), Room qt k (A.deeper (envOfC qual scope s.heap.objs.size f cdv)) → sp vs H Q E →
      ∃ t, PSs (cxOf qt CX P w K mg base N qual scope f cdv A outer s H E) body t ∧ t { nx := fun _ H' => Q .non H', rt := Q } (start N vs) H) :
    FnOk qt P w K mg base CX (k + 1) f (PySem.W.fnOf name qual params body scope dV kV doc pm an cdv ct) ps sp := by
  refine ⟨len, fun A outer s H args us vs Q E hr e0 hb r hsp => ?_⟩
  have hl := len _ _ _ _ hsp
  have KX : K.In s.heap := e0.mod.kin.keeps fun b o e => (e0.bs b o e).1
  have lim : s.heap.NoLimit := e0.mod.nolimit.keeps fun b o e => (e0.bs b o e).1
  have hkind : ∀ y ∈ ps.zip us, scope.names.lookup y.1 = some .local ∨ (scope.names.lookup y.1 = some .cell ∧ ((cellsFrom (s.heap.objs.size + 1) scope.names []).lookup y.1).isSome = true) := fun ⟨n, v⟩ hy => by
    rcases S.par n (List.of_mem_zip hy).1 with q | q
    · exact .inl q
    · exact .inr ⟨q, PySem.W.cellsFrom_some _ _ _ (.inl q)⟩
  refine codeAny_call_function hr.depth (KX _ _ lk) rfl S.co S.gen rfl (PySem.W.codeRec_of KX hcd) (hb _ _ _ _ ?_)
  refine wpAny_newFunctionEnv_cells S.kind hkind fun env he s1 x => ?_
  subst he
  refine ⟨lim.keeps x.toInCall.keep, codeAny_func ?_⟩
  obtain ⟨t, ht, hq⟩ := hbody A outer s H vs Q E (hr.deeper _) hsp
  have I : Inv (cxOf qt CX P w K mg base N qual scope f cdv A outer s H E) [] (start N vs) H s1 := inv_start S hr.hd e0 hl r x
  refine wpAny_mono (ht [] s1 (start N vs) H _ I hq) (fun fl s' hs => ?_) fun e s' hs => hs
  have fin : ∀ {σ' : St} {H' : Hp} {v : V} {u : Value}, Inv (cxOf qt CX P w K mg base N qual scope f cdv A outer s H E) [] σ' H' s' → RelV v u → Q v H' → CE outer P w H s Q u s' :=
    fun {σ' H' v u} J rv q => ⟨v, H', J.os, J.bare, J.base, J.hok, rv, q⟩
  cases fl with
  | ret u =>
    obtain ⟨v, σ', H', J, rv, q⟩ := hs
    exact fin J rv q
  | next =>
    obtain ⟨σ', H', J, q⟩ := hs
    exact fin (v := V.non) (u := Value.none) J rfl q
  | brk =>
    obtain ⟨_, _, _, q⟩ := hs
    exact False.elim q
  | cont =>
    obtain ⟨_, _, _, q⟩ := hs
    exact False.elim q
end L2

namespace L2
open PySem PySem.Spec PyProof.Rows
section
variable {X : Cx} {x : Str} {p pos : Pos} {e : Expr} {es : List Expr} {t : TA} {id T : String} {r : List V → Hp → VK → Prop}

def tCB (r : List V → Hp → VK → Prop) (t : TA) : TE := fun σ H Q => t σ H fun vs H1 => r vs H1 Q
end
end L2

namespace L2
open PySem PySem.Spec PyProof.Rows

/-! ### lists of pairs as tables -/
section
variable {κ : Type} [DecidableEq κ]
def valV (kvs : List (κ × V)) (k : κ) : Option V := (kvs.find? fun kv => decide (kv.1 = k)).map (·.2)
/-- in its place, or at the end -/
def putK (kvs : List (κ × V)) (k : κ) (v : V) : List (κ × V) :=
  if (kvs.any fun kv => decide (kv.1 = k)) = true then kvs.map (fun kv => if kv.1 = k then (kv.1, v) else kv) else kvs ++ [(k, v)]
def dropK (kvs : List (κ × V)) (k : κ) : List (κ × V) := kvs.filter fun kv => decide (kv.1 ≠ k)

theorem valV_pos {p : κ × V} {r : List (κ × V)} {k : κ} (e : p.1 = k) : valV (p :: r) k = some p.2 := by simp [valV, List.find?_cons, e]
theorem valV_neg {p : κ × V} {r : List (κ × V)} {k : κ} (e : ¬ p.1 = k) : valV (p :: r) k = valV r k := by simp [valV, List.find?_cons, e]
theorem valV_any (k : κ) : ∀ kvs : List (κ × V), (kvs.any fun kv => decide (kv.1 = k)) = (valV kvs k).isSome
  | [] => rfl
  | p :: r => by
    rw [List.any_cons]
    by_cases e : p.1 = k
    · simp only [valV_pos e, decide_eq_true e, Bool.true_or, Option.isSome_some]
    · rw [valV_neg e, decide_eq_false e, Bool.false_or]; exact valV_any k r
theorem RelO.isSome_eq {o : Option V} {u : Option Value} (r : RelO o u) : o.isSome = u.isSome := by
  cases o with
  | none => cases u with
    | none => rfl
    | some _ => exact (show False from r).elim
  | some _ => cases u with
    | none => exact (show False from r).elim
    | some _ => rfl
theorem RelO.getD {o : Option V} {u : Option Value} {d : V} {d' : Value} (r : RelO o u) (rd : RelV d d') : RelV (o.getD d) (u.getD d') := by
  cases o with
  | none => cases u with
    | none => exact rd
    | some _ => exact (show False from r).elim
  | some _ => cases u with
    | none => exact (show False from r).elim
    | some _ => exact r

/-- raw tables of the same keys -/
theorem KV.val {kvs : List (κ × V)} {vs : List (κ × Value)} (r : KV kvs vs) (k : κ) : RelO (valV kvs k) (valueAt vs k) := by
  unfold KV at r
  induction r with
  | nil => exact True.intro
  | @cons p q ps qs h t ih =>
    obtain ⟨h1, h2⟩ := h
    by_cases e : p.1 = k
    · have e' : q.1 = k := h1.symm.trans e
      have b : valueAt (q :: qs) k = some q.2 := by simp [valueAt, List.find?_cons, e']
      rw [valV_pos e, b]; exact h2
    · have e' : ¬ q.1 = k := fun z => e (h1.trans z)
      have b : valueAt (q :: qs) k = valueAt qs k := by simp [valueAt, List.find?_cons, e']
      rw [valV_neg e, b]; exact ih
theorem KV.any {kvs : List (κ × V)} {vs : List (κ × Value)} (r : KV kvs vs) (k : κ) : (kvs.any fun kv => decide (kv.1 = k)) = vs.any fun kv => decide (kv.1 = k) := by
  unfold KV at r
  induction r with
  | nil => rfl
  | cons h t ih => rw [List.any_cons, List.any_cons, ih, h.1]
theorem KV.repl {kvs : List (κ × V)} {vs : List (κ × Value)} (r : KV kvs vs) (k : κ) {y : V} {u : Value} (ry : RelV y u) :
    KV (kvs.map fun kv => if kv.1 = k then (kv.1, y) else kv) (vs.map fun kv => if kv.1 = k then (kv.1, u) else kv) := by
  unfold KV at r ⊢
  induction r with
  | nil => exact .nil
  | @cons p q ps qs h t ih =>
    rw [List.map_cons, List.map_cons]
    refine .cons ?_ ih
    obtain ⟨h1, h2⟩ := h
    by_cases e : p.1 = k
    · rw [if_pos e, if_pos (h1.symm.trans e)]; exact ⟨h1, ry⟩
    · rw [if_neg e, if_neg (fun z => e (h1.trans z))]; exact ⟨h1, h2⟩
theorem KV.put {kvs : List (κ × V)} {vs : List (κ × Value)} (r : KV kvs vs) (k : κ) {y : V} {u : Value} (ry : RelV y u) : KV (putK kvs k y) (stored vs k u) := by
  unfold putK stored
  rw [r.any k]
  by_cases e : (vs.any fun kv => decide (kv.1 = k)) = true
  · rw [if_pos e, if_pos e]; exact r.repl k ry
  · rw [if_neg e, if_neg e]; exact Paired.snoc r ⟨rfl, ry⟩
theorem KV.drop {kvs : List (κ × V)} {vs : List (κ × Value)} (r : KV kvs vs) (k : κ) : KV (dropK kvs k) (without vs k) := by
  unfold KV at r ⊢
  unfold dropK without
  induction r with
  | nil => exact .nil
  | @cons p q ps qs h t ih =>
    obtain ⟨h1, h2⟩ := h
    rw [List.filter_cons, List.filter_cons]
    by_cases e : p.1 = k
    · have a : ¬ decide (p.1 ≠ k) = true := by simp [e]
      have b : ¬ decide (q.1 ≠ k) = true := by simp [h1.symm.trans e]
      rw [if_neg a, if_neg b]; exact ih
    · have e' : ¬ q.1 = k := fun z => e (h1.trans z)
      have a : decide (p.1 ≠ k) = true := by simp [e]
      have b : decide (q.1 ≠ k) = true := by simp [e']
      rw [if_pos a, if_pos b]; exact .cons ⟨h1, h2⟩ ih
theorem KV.keys {kvs : List (κ × V)} {vs : List (κ × Value)} (r : KV kvs vs) : kvs.map (·.1) = vs.map (·.1) := by
  unfold KV at r
  induction r with
  | nil => rfl
  | cons h t ih => rw [List.map_cons, List.map_cons, ih, h.1]
theorem KV.length {kvs : List (κ × V)} {vs : List (κ × Value)} (r : KV kvs vs) : kvs.length = vs.length := Paired.length r
end


/-! ### a tracked dict, its keys ints and texts or tuples of these -/
/-- raw entries of a dict with tuple keys -/
abbrev KT (H : Hp) : List (List Key × V) → List (List Key × Addr × Value) → Prop := Paired fun p q => p.1 = q.1 ∧ H q.2.1 = some (.tup (p.1.map kV)) ∧ RelV p.2 q.2.2
theorem KT.val {H : Hp} {kvs : List (List Key × V)} {xs : List (List Key × Addr × Value)} (r : KT H kvs xs) (k : List Key) : RelO (valV kvs k) ((atKey xs k).map (·.2)) := by
  induction r with
  | nil => exact True.intro
  | @cons p q ps qs h t ih =>
    obtain ⟨h1, _, h2⟩ := h
    by_cases e : p.1 = k
    · have e' : q.1 = k := h1.symm.trans e
      have b : atKey (q :: qs) k = some q.2 := by simp [atKey, List.find?_cons, e']
      rw [valV_pos e, b]; exact h2
    · have e' : ¬ q.1 = k := fun z => e (h1.trans z)
      have b : atKey (q :: qs) k = atKey qs k := by simp [atKey, List.find?_cons, e']
      rw [valV_neg e, b]; exact ih
theorem KT.repl {H : Hp} {kvs : List (List Key × V)} {xs : List (List Key × Addr × Value)} (r : KT H kvs xs) (k : List Key) {y : V} {u : Value} (ry : RelV y u) :
    KT H (kvs.map fun kv => if kv.1 = k then (kv.1, y) else kv) (xs.map (putAt k u)) := by
  induction r with
  | nil => exact .nil
  | @cons p q ps qs h t ih =>
    rw [List.map_cons, List.map_cons]
    refine .cons ?_ ih
    obtain ⟨h1, h2, h3⟩ := h
    unfold putAt
    by_cases e : p.1 = k
    · rw [if_pos e, if_pos (h1.symm.trans e)]; exact ⟨h1, h2, ry⟩
    · rw [if_neg e, if_neg (fun z => e (h1.trans z))]; exact ⟨h1, h2, h3⟩
theorem KT.put {H : Hp} {kvs : List (List Key × V)} {xs : List (List Key × Addr × Value)} (r : KT H kvs xs) (k : List Key) {b : Addr} {y : V} {u : Value} (hb : H b = some (.tup (k.map kV))) (ry : RelV y u) :
    KT H (putK kvs k y) (storedH xs k b u) := by
  have e : (kvs.any fun kv => decide (kv.1 = k)) = (atKey xs k).isSome := by
    rw [valV_any, (r.val k).isSome_eq, Option.isSome_map]
  unfold putK storedH
  rw [e]
  by_cases q : (atKey xs k).isSome = true
  · rw [if_pos q, if_pos q]; exact r.repl k ry
  · rw [if_neg q, if_neg q]; exact Paired.snoc r ⟨rfl, hb, ry⟩
theorem KT.keeps {H H' : Hp} {kvs : List (List Key × V)} {xs : List (List Key × Addr × Value)} (r : KT H kvs xs) (ht : ∀ b ys, H b = some (.tup ys) → H' b = some (.tup ys)) : KT H' kvs xs :=
  Paired.mapP r fun _ _ z => ⟨z.1, ht _ _ z.2.1, z.2.2⟩

section
variable {P : Program} {w : World} {H : Hp} {h : Heap} {a : Addr}
end

/-- what the dict at a holds at the key y -/
def DGet (H : Hp) (a : Addr) (y : V) (r : Option V) : Prop :=
  (∃ kvs k, Rd H a (.dK kvs) ∧ y = kV k ∧ r = valV kvs k) ∨ ∃ kvs k b, Rd H a (.dT kvs) ∧ y = .ref b ∧ H b = some (.tup (k.map kV)) ∧ r = valV kvs k
/-- the heap behind a[y] = v -/
def DPut (H : Hp) (a : Addr) (y v : V) (H' : Hp) : Prop :=
  (∃ kvs k, H a = some (.dK kvs) ∧ y = kV k ∧ kvs.length < sizeLine ∧ H' = upd H a (.dK (putK kvs k v))) ∨
  ∃ kvs k b, H a = some (.dT kvs) ∧ y = .ref b ∧ H b = some (.tup (k.map kV)) ∧ kvs.length < sizeLine ∧ H' = upd H a (.dT (putK kvs k v))
theorem DGet.k {H : Hp} {a : Addr} {kvs : List (Key × V)} {k : Key} (e : H a = some (.dK kvs)) : DGet H a (kV k) (valV kvs k) := .inl ⟨kvs, k, .inl e, rfl, rfl⟩
theorem DGet.t {H : Hp} {a b : Addr} {kvs : List (List Key × V)} {k : List Key} (e : H a = some (.dT kvs)) (eb : H b = some (.tup (k.map kV))) : DGet H a (.ref b) (valV kvs k) := .inr ⟨kvs, k, b, .inl e, rfl, eb, rfl⟩
theorem DPut.k {H : Hp} {a : Addr} {kvs : List (Key × V)} {k : Key} {v : V} (e : H a = some (.dK kvs)) (hl : kvs.length < sizeLine) : DPut H a (kV k) v (upd H a (.dK (putK kvs k v))) := .inl ⟨kvs, k, e, rfl, hl, rfl⟩
theorem DPut.t {H : Hp} {a b : Addr} {kvs : List (List Key × V)} {k : List Key} {v : V} (e : H a = some (.dT kvs)) (eb : H b = some (.tup (k.map kV))) (hl : kvs.length < sizeLine) :
    DPut H a (.ref b) v (upd H a (.dT (putK kvs k v))) := .inr ⟨kvs, k, b, e, rfl, eb, hl, rfl⟩


section
variable {X : Cx} {pins : List (Addr × Obj)} {σ : St} {H : Hp} {s : Shared} {a : Addr} {y v : V} {u r : Value} {o : Option V} {A : Around} {E : Value → Shared → Prop}

theorem Inv.big (I : Inv X pins σ H s) : sysModules < s.heap.objs.size := by
  have h : mainGlobals < s.heap.objs.size := (I.mod.glob.keeps I.bk).lt
  exact Nat.lt_trans (by decide) h

end

section
variable {X : Cx} {pins : List (Addr × Obj)} {σ : St} {H : Hp} {s : Shared} {a : Addr} {kvs : List (Key × V)} {k : Key} {u : Value} {A : Around} {E : Value → Shared → Prop}
end


/-! ### readings and rules -/
/-- the element of a subscription, not a slice -/
def NoSl (i : Expr) : Prop := ∀ ov iv, subscripted i false ov iv = operate [ov, iv] (getItem ov iv)
/-- d[y] -/
def tDGet (td ty : TE) : TE := fun σ H Q => td σ H fun x H1 => ty σ H1 fun y H2 => ∃ a v, x = .ref a ∧ DGet H2 a y (some v) ∧ Q v H2
/-- y in d, y not in d -/
def tDIn (ty td : TE) : TE := fun σ H Q => ty σ H fun y H1 => td σ H1 fun x H2 => ∃ a o, x = .ref a ∧ DGet H2 a y o ∧ Q (.bl o.isSome) H2
def tDNotIn (ty td : TE) : TE := fun σ H Q => ty σ H fun y H1 => td σ H1 fun x H2 => ∃ a o, x = .ref a ∧ DGet H2 a y o ∧ Q (.bl (!o.isSome)) H2
/-- d[y] = v -/
def sDPut (td ty tv : TE) : TS := fun D σ H => tv σ H fun v H1 => td σ H1 fun x H2 => ty σ H2 fun y H3 => ∃ a H4, x = .ref a ∧ DPut H3 a y v H4 ∧ D.nx σ H4
/-- d[y] op= v -/
def sDAug (td ty tv : TE) (rd : V → V → Hp → VK → Prop) : TS := fun D σ H => td σ H fun x H1 => ty σ H1 fun y H2 => ∃ a v, x = .ref a ∧ DGet H2 a y (some v) ∧
  tv σ H2 fun y2 H3 => rd v y2 H3 fun z H4 => ∃ H5, DPut H4 a y z H5 ∧ D.nx σ H5
/-- del d[y] -/
def sDDel (td ty : TE) : TS := fun D σ H => td σ H fun x H1 => ty σ H1 fun y H2 => ∃ a kvs k, x = .ref a ∧ H2 a = some (.dK kvs) ∧ y = kV k ∧ (valV kvs k).isSome = true ∧ D.nx σ (upd H2 a (.dK (dropK kvs k)))

section
variable {X : Cx} {o i e value : Expr} {pos pos' tpos : Pos} {td ty tv : TE}
end


/-! ### displays -/
/-- {}, to be a dict of the kind that is wanted -/
def tDNewK : TE := fun _ H Q => ∀ p, H p = none → Q (.ref p) (upd H p (.dK []))
def tDNewT : TE := fun _ H Q => ∀ p, H p = none → Q (.ref p) (upd H p (.dT []))
section
variable {X : Cx} {pos : Pos}
end

/-- the pairs of a display, from the left -/
def tPairs : List (TE × TE) → St → Hp → (List (V × V) → Hp → Prop) → Prop
  | [], _, H, Q => Q [] H
  | (tk, tv) :: r, σ, H, Q => tk σ H fun x H1 => tv σ H1 fun y H2 => tPairs r σ H2 fun ps H3 => Q ((x, y) :: ps) H3
abbrev VV : List (V × V) → List (Value × Value) → Prop := Paired fun p q => RelV p.1 q.1 ∧ RelV p.2 q.2
def PPs (X : Cx) (pos : Pos) (keys : List (Option Expr)) (values : List Expr) (trs : List (TE × TE)) : Prop :=
  ∀ (pins : List (Addr × Obj)) (s : Shared) (σ : St) (H : Hp) (Q : List (V × V) → Hp → Prop), Inv X pins σ H s → tPairs trs σ H Q →
    wpAny (model X.prog X.w) X.A (evalPairs (pairTrees keys values X.env pos)) (fun vs s' => ∃ ps H', Inv X pins σ H' s' ∧ VV ps vs ∧ Q ps H') X.xe s
def mergeK (kvs more : List (Key × V)) : List (Key × V) := more.foldl (fun acc kv => putK acc kv.1 kv.2) kvs
/-- {k: v, ..} with keys ints and texts; the new dict stands empty while the pairs are made -/
def tDisp (trs : List (TE × TE)) : TE := fun σ H Q => ∀ p, H p = none → tPairs trs σ (upd H p (.dK [])) fun ps H2 => H2 p = some (.dK []) ∧ ∃ kvs : List (Key × V), ps = kvs.map (fun kv => (kV kv.1, kv.2)) ∧ kvs.length ≤ 15 ∧ Q (.ref p) (upd H2 p (.dK (mergeK [] kvs)))
/-! ### methods -/
/-- a method call o.m(e) of a built-in, with one argument: what must be seen of the text -/
structure M1 (X : Cx) (o : Expr) (m : Str) (apos : Pos) (e : Expr) (cpos : Pos) : Prop where
  base : attributeBase o m X.env (eval o X.env) = eval o X.env
  few : ((backTo cpos (starEach [e] X.env)).all (fun x => !x.1) && (backToKw cpos (keywordEach [] X.env)).all (fun x => x.1.isSome)
    && decide (([e] : List Expr).length + ([] : List Keyword).length + (if ([] : List Keyword).isEmpty then 0 else 1) < 30)) = true
  line : (apos.endLine == cpos.line) = true
  trees : backTo cpos (starEach [e] X.env) = [(false, eval e X.env)]
structure M2 (X : Cx) (o : Expr) (m : Str) (apos : Pos) (e f : Expr) (cpos : Pos) : Prop where
  base : attributeBase o m X.env (eval o X.env) = eval o X.env
  few : ((backTo cpos (starEach [e, f] X.env)).all (fun x => !x.1) && (backToKw cpos (keywordEach [] X.env)).all (fun x => x.1.isSome)
    && decide (([e, f] : List Expr).length + ([] : List Keyword).length + (if ([] : List Keyword).isEmpty then 0 else 1) < 30)) = true
  line : (apos.endLine == cpos.line) = true
  trees : backTo cpos (starEach [e, f] X.env) = [(false, eval e X.env), (false, eval f X.env)]

/-- a is a dict, whatever its keys -/
def IsD (H : Hp) (a : Addr) : Prop := (∃ kvs, Rd H a (.dK kvs)) ∨ ∃ kvs, Rd H a (.dT kvs)
section
variable {X : Cx} {pins : List (Addr × Obj)} {σ : St} {H : Hp} {s : Shared} {a : Addr} {y d : V} {u r : Value} {o : Option V} {A : Around} {E : Value → Shared → Prop}
end

def tDGet1 (td ty : TE) : TE := fun σ H Q => td σ H fun x H1 => ∃ a, x = .ref a ∧ IsD H1 a ∧ ty σ H1 fun y H2 => ∃ o, DGet H2 a y o ∧ Q (o.getD .non) H2
def tDGet2 (td ty tx : TE) : TE := fun σ H Q => td σ H fun x H1 => ∃ a, x = .ref a ∧ IsD H1 a ∧ ty σ H1 fun y H2 => tx σ H2 fun z H3 => ∃ o, DGet H3 a y o ∧ Q (o.getD z) H3
/-- d.pop(k): there; d.pop(k, x): there or not -/
def tDPop1 (td ty : TE) : TE := fun σ H Q => td σ H fun x H1 => ∃ a, x = .ref a ∧ IsD H1 a ∧ ty σ H1 fun y H2 => ∃ kvs k v, H2 a = some (.dK kvs) ∧ y = kV k ∧ valV kvs k = some v ∧ Q v (upd H2 a (.dK (dropK kvs k)))
def tDPop2 (td ty tx : TE) : TE := fun σ H Q => td σ H fun x H1 => ∃ a, x = .ref a ∧ IsD H1 a ∧ ty σ H1 fun y H2 => tx σ H2 fun z H3 => ∃ kvs k, H3 a = some (.dK kvs) ∧ y = kV k ∧
  (∀ v, valV kvs k = some v → Q v (upd H3 a (.dK (dropK kvs k)))) ∧ (valV kvs k = none → Q z H3)
section
variable {X : Cx} {o e f : Expr} {apos cpos : Pos} {td ty tx : TE}
end

/-! ### dict(d): a copy -/
section
variable {X : Cx} {pins : List (Addr × Obj)} {σ : St} {H : Hp} {s : Shared} {a : Addr} {kvs : List (Key × V)} {A : Around} {E : Value → Shared → Prop}
end


section
variable {X : Cx} {pins : List (Addr × Obj)} {σ : St} {H : Hp} {s : Shared} {a : Addr} {y : V} {u : Value} {A : Around} {E : Value → Shared → Prop}
end
end L2

namespace HT
open PySem PyProof.Rows

/-- t < u of tuples of ints -/
def lexLt : List Int → List Int → Bool
  | [], [] => false
  | [], _ :: _ => true
  | _ :: _, [] => false
  | x :: xs, y :: ys => if x = y then lexLt xs ys else decide (x < y)
section
open PySem.SeqAt
open PySem.AutoSeq1 (wpAny_loadPart')
open PySem.MeetsSeq PySem.MeetsSeq2 PySem.MeetsSeq3

end

section
variable {prog : Program} {w : World} {A : Around} {E : Value → Shared → Prop} {s : Shared}

/-- t + u, t not empty -/
theorem cat_tup {t b : Addr} {vs ws : List Value} {Q : Value → Shared → Prop} (ht : IsTup s.heap t vs.toArray) (hb : IsTup s.heap b ws.toArray) (hv : vs ≠ [])
    (h1 : ws = [] → Q (.ref t) s) (h2 : ws ≠ [] → Q (.ref s.heap.objs.size) { s with heap := s.heap.push { cls := .type "tuple", data := .seq (vs ++ ws).toArray } })
    (hsz : vs.length + ws.length ≤ sizeLine) : wpAny (model prog w) A (binaryOp .Add (.ref t) (.ref b)) Q E s := by
  obtain ⟨⟨cls, dd, data, sl⟩, ho, hc, n, hd⟩ := id ht
  obtain ⟨⟨cls2, dd2, data2, sl2⟩, ho2, hc2, n2, hd2⟩ := id hb
  simp only at hc hd hc2 hd2
  subst hc hd hc2 hd2
  have e : vs.toArray ++ ws.toArray = (vs ++ ws).toArray := by simp
  by_cases hw : ws = []
  · exact concat_meets ⟨_, ho, rfl⟩ ⟨_, ho2, rfl⟩ noFill_tuple_add seq_tuple_add PySem.F.slot_tuple_add PySem.F.entry_tuple_add (PySem.F.args_tuple_add_2 _ _)
      (tuple_addW1 t b vs.toArray ws.toArray n n2 dd dd2 sl sl2 (by simpa using hv) (by simp [hw])) ⟨ho, ho2, h1 hw⟩
  · refine concat_meets ⟨_, ho, rfl⟩ ⟨_, ho2, rfl⟩ noFill_tuple_add seq_tuple_add PySem.F.slot_tuple_add PySem.F.entry_tuple_add (PySem.F.args_tuple_add_2 _ _)
      (tuple_addW2 t b vs.toArray ws.toArray n n2 dd dd2 sl sl2 (by simpa using hv) (by simpa using hw) (by rw [List.size_toArray, List.size_toArray]; exact hsz)) ⟨ho, ho2, ?_⟩
    rw [e]
    exact h2 hw

/-! ### t[a:b], not the whole -/
/-- a slice's bound as a place among n (d where it is left out) -/
def sIx (n d : Nat) : Option Int → Nat
  | none => d
  | some v => if v < 0 then (v + (n : Int)).toNat else min v.toNat n
theorem sIx_none (n d : Nat) : sIx n d none = d := rfl
theorem sIx_nat (n d k : Nat) : sIx n d (some (k : Int)) = min k n := by
  show (if (k : Int) < 0 then ((k : Int) + (n : Int)).toNat else min (k : Int).toNat n) = min k n
  rw [if_neg (by omega), Int.toNat_natCast]
theorem sIx_le (n d : Nat) (hd : d ≤ n) (o : Option Int) : sIx n d o ≤ n := by
  cases o with
  | none => exact hd
  | some v =>
    show (if v < 0 then (v + (n : Int)).toNat else min v.toNat n) ≤ n
    by_cases hv : v < 0
    · rw [if_pos hv]; omega
    · rw [if_neg hv]; exact Nat.min_le_right _ _
theorem clip_eq (v : Int) (n d : Nat) : (if v < 0 then max (v + (n : Int)) 0 else min v (n : Int)) = ((sIx n d (some v) : Nat) : Int) := by
  show (if v < 0 then max (v + (n : Int)) 0 else min v (n : Int)) = (((if v < 0 then (v + (n : Int)).toNat else min v.toNat n) : Nat) : Int)
  by_cases hv : v < 0
  · simp only [if_pos hv]; omega
  · simp only [if_neg hv]; omega
theorem adjust_gen (lo hi : Option Int) (n : Nat) : Builtin.Slice.sliceAdjust lo hi 1 (n : Int) = (((sIx n 0 lo : Nat) : Int), ((sIx n n hi : Nat) : Int)) := by
  have h1 : ¬ ((1 : Int) < 0) := by omega
  unfold Builtin.Slice.sliceAdjust
  simp only [h1, if_false]
  refine Prod.ext ?_ ?_
  · cases lo with
    | none => rfl
    | some v => exact clip_eq v n 0
  · cases hi with
    | none => rfl
    | some v => exact clip_eq v n n
theorem places_gen (i j : Nat) : Builtin.Slice.slicePlaces (i : Int) (j : Int) 1 = j - i := by
  unfold Builtin.Slice.slicePlaces
  have h1 : (1 : Int) > 0 := by omega
  simp only [h1, if_true, Int.ediv_one]
  split <;> omega
theorem slicePart_ {v : Value} {o : Option Int} {Q : Option Int → Shared → Prop} (p : IsPart v o) (h : Q o s) : wpAny (model prog w) A (Builtin.Slice.slicePartIndex v) Q E s := by
  cases p with
  | none => exact slicePart_none h
  | int i t => exact slicePart_int h
theorem sliceApplied_gen {sl : Addr} {vl vu : Value} {lo hi : Option Int} {n : Nat} {Q : Int × Int × Nat → Shared → Prop} (hs : s.heap.IsSliceOf sl vl vu .none) (pl : IsPart vl lo) (pu : IsPart vu hi)
    (h : Q (((sIx n 0 lo : Nat) : Int), 1, sIx n n hi - sIx n 0 lo) s) : wpAny (model prog w) A (Builtin.Slice.sliceApplied (.ref sl) (pure (n : Int))) Q E s := by
  obtain ⟨os, hos, hcs, hds⟩ := id hs
  unfold Builtin.Slice.sliceApplied Builtin.Slice.sliceFields
  refine wpAny_bind (wpAny_bind (wpAny_field hos hds (x := vl) rfl (wpAny_bind (wpAny_field hos hds (x := vu) rfl (wpAny_bind (wpAny_field hos hds (x := .none) rfl (wpAny_pure ?_)))))))
  refine wpAny_bind (slicePart_none ?_)
  show wpAny _ _ (if ((1 : Int) == 0) = true then _ else _) _ _ s
  rw [if_neg (by decide)]
  refine wpAny_bind (slicePart_ pl (wpAny_bind (slicePart_ pu (wpAny_bind (wpAny_pure ?_)))))
  show wpAny _ _ (match Builtin.Slice.sliceAdjust lo hi 1 (n : Int) with | (lo, hi) => pure (lo, (1 : Int), Builtin.Slice.slicePlaces lo hi 1)) _ _ s
  rw [adjust_gen lo hi n]
  show wpAny _ _ (pure (((sIx n 0 lo : Nat) : Int), (1 : Int), Builtin.Slice.slicePlaces ((sIx n 0 lo : Nat) : Int) ((sIx n n hi : Nat) : Int) 1)) _ _ s
  rw [places_gen]
  exact wpAny_pure h
theorem pick_gen (xs : Array Value) (i k : Nat) : ((List.range k).filterMap fun (m : Nat) => xs[((i : Int) + (m : Int) * 1).toNat]?).toArray = ((xs.toList.drop i).take k).toArray := by
  have e : (fun (m : Nat) => xs[((i : Int) + (m : Int) * 1).toNat]?) = fun m => xs[i + m]? := by
    funext m
    have : ((i : Int) + (m : Int) * 1).toNat = i + m := by omega
    rw [this]
  rw [e]
  have := pick_run xs i k
  rw [List.filterMap_map] at this
  have e2 : ((fun x => xs[x]?) ∘ fun x => i + x) = fun m => xs[i + m]? := rfl
  rw [e2] at this
  rw [this]

theorem getItem_tuple_cut {t sl : Addr} {items : Array Value} {vl vu : Value} {lo hi : Option Int} {Q : Value → Shared → Prop} (ht : IsTup s.heap t items) (hs : s.heap.IsSliceOf sl vl vu .none) (pl : IsPart vl lo) (pu : IsPart vu hi)
    (hw : ¬ (sIx items.size 0 lo = 0 ∧ sIx items.size items.size hi = items.size))
    (h : Q (.ref s.heap.objs.size) { s with heap := s.heap.push { cls := .type "tuple", data := .seq ((items.toList.drop (sIx items.size 0 lo)).take (sIx items.size items.size hi - sIx items.size 0 lo)).toArray } })
    (hsz : items.size ≤ sizeLine) : wpAny (model prog w) A (getItem (.ref t) (.ref sl)) Q E s := by
  have htake : sizeOk (.seq ((items.toList.drop (sIx items.size 0 lo)).take (sIx items.size items.size hi - sIx items.size 0 lo)).toArray) := by
    show ((items.toList.drop (sIx items.size 0 lo)).take (sIx items.size items.size hi - sIx items.size 0 lo)).toArray.size ≤ sizeLine
    rw [List.size_toArray, List.length_take, List.length_drop, Array.length_toList]
    omega
  have hj : sIx items.size items.size hi ≤ items.size := sIx_le _ _ (Nat.le_refl _) hi
  obtain ⟨os, hos, hcs, hds⟩ := id hs
  have hTs : s.TypeIs (.ref sl) "slice" := ⟨os, hos, hcs⟩
  unfold getItem
  try with_reducible refine wpAny_holding ?_
  first | refine wpAny_bind (wpAny_pure ?_) | skip
  refine wpAny_bind (wpAny_sequenceKey ht.typeIs (by decide) ?_)
  refine wpAny_bind (wpAny_callSpecial?_slot (name := Str.ofString "__getitem__") ht.typeIs PyProof.Rows.slot_tuple_getitem
    (wpAny_call_entry PyProof.Rows.slot_tuple_getitem ht.typeIs entry_tuple_getitem ?_ (args_tuple_getitem _ _)))
  show wpAny _ _ (Builtin.Tuple.tupleItemsOf (.ref t) >>= _) _ _ s
  refine wpAny_bind (tupleItemsOf_ ht ?_)
  refine wpAny_bind (wpAny_typeOf hTs ?_)
  rw [if_pos (by decide)]
  refine wpAny_bind (sliceApplied_gen hs pl pu ?_)
  have hno : ¬ ((((sIx items.size 0 lo : Nat) : Int) == 0 && (1 : Int) == 1 && (sIx items.size items.size hi - sIx items.size 0 lo) == items.size) = true) := by
    intro q
    rw [Bool.and_eq_true, Bool.and_eq_true] at q
    have q1 : ((sIx items.size 0 lo : Nat) : Int) = 0 := eq_of_beq q.1.1
    have q2 : sIx items.size items.size hi - sIx items.size 0 lo = items.size := eq_of_beq q.2
    exact hw ⟨by omega, by omega⟩
  show wpAny _ _ (if (((sIx items.size 0 lo : Nat) : Int) == 0 && (1 : Int) == 1 && (sIx items.size items.size hi - sIx items.size 0 lo) == items.size) = true then _ else _) _ _ s
  rw [if_neg hno, pick_gen]
  first
    | exact wpAny_bind (m := Builtin.Tuple.tupleExact _) (wpAny_newObj_type (wpAny_pure ⟨_, rfl, wpAny_pure h⟩) htake)
    | exact wpAny_bind (m := Builtin.Tuple.tupleExact _) (wpAny_newObj_type (wpAny_bind (wpAny_pure (wpAny_pure ⟨_, rfl, wpAny_pure h⟩))) htake)
    | exact wpAny_bind (wpAny_bind (m := Builtin.Tuple.tupleExact _) (wpAny_newObj_type (wpAny_pure (wpAny_pure ⟨_, rfl, wpAny_pure h⟩)) htake))
    | exact wpAny_bind (wpAny_bind (m := Builtin.Tuple.tupleExact _) (wpAny_newObj_type (wpAny_pure ⟨_, rfl, wpAny_pure h⟩) htake))
end
end HT

namespace L2
open PySem PySem.Spec PyProof.Rows

/-! ### the parts of a slice -/
abbrev TO := St → Hp → (Option Int → Hp → Prop) → Prop
/-- a slice's part (left out, or an int) -/
def PO (X : Cx) (e : Option Expr) (t : TO) : Prop :=
  ∀ (pins : List (Addr × Obj)) (s : Shared) (σ : St) (H : Hp) (Q : Option Int → Hp → Prop), Inv X pins σ H s → t σ H Q →
    wpAny (model X.prog X.w) X.A (evalPart e X.env) (fun u s' => ∃ o H', Inv X pins σ H' s' ∧ IsPart u o ∧ Q o H') X.xe s
def tNoPart : TO := fun _ H Q => Q none H
def tPart (t : TE) : TO := fun σ H Q => t σ H fun x H1 => ∃ i, x = .int i ∧ Q (some i) H1

section
variable {X : Cx} {e : Expr} {te : TE} {lo hi : Option Expr} {tl th : TO} {pos p2 : Pos}

theorem po_none : PO X none tNoPart := by
  intro pins s σ H Q I h
  rw [evalPart_none]
  exact wpAny_pure ⟨none, H, I, .none, h⟩
theorem po_some (h : PE X e te) : PO X (some e) (tPart te) := by
  intro pins s σ H Q I hw
  rw [evalPart_some]
  refine thn (h pins s σ H _ I hw) fun u s1 ⟨x, H1, I1, r1, q1⟩ => ?_
  obtain ⟨i, rfl, q⟩ := q1
  obtain ⟨t, rfl⟩ := r1
  exact ⟨some i, H1, I1, .int i t, q⟩

/-- what a slice of a value is, by values: the slice object stands at sl -/
def SlR (X : Cx) (r : V → Option Int → Option Int → Hp → VK → Prop) : Prop :=
  ∀ (pins : List (Addr × Obj)) (s : Shared) (σ : St) (H : Hp) (x : V) (v vl vu : Value) (lo hi : Option Int) (sl : Addr) (Q : VK), Inv X pins σ H s → RelV x v → s.heap.IsSliceOf sl vl vu .none → IsPart vl lo → IsPart vu hi → r x lo hi H Q →
    ∃ T id, typeLookup (.type T) "__getitem__" = pure (some (.builtin id)) ∧ s.TypeIs v T ∧ wpAny (model X.prog X.w) X.A (getItem v (.ref sl)) (EP X pins σ Q) X.xe s
theorem SlR.or {r r' : V → Option Int → Option Int → Hp → VK → Prop} (h : SlR X r) (h' : SlR X r') : SlR X (fun x lo hi H Q => r x lo hi H Q ∨ r' x lo hi H Q) := by
  intro pins s σ H x v vl vu lo hi sl Q I rx hs pl pu q
  rcases q with q | q
  · exact h pins s σ H x v vl vu lo hi sl Q I rx hs pl pu q
  · exact h' pins s σ H x v vl vu lo hi sl Q I rx hs pl pu q
def tSl (r : V → Option Int → Option Int → Hp → VK → Prop) (te : TE) (tl th : TO) : TE := fun σ H Q => te σ H fun x H1 => tl σ H1 fun l H2 => th σ H2 fun u H3 => r x l u H3 Q
/-- a[lo:hi], any a -/
theorem pe_slice {r : V → Option Int → Option Int → Hp → VK → Prop} (hr : SlR X r) (he : PE X e te) (hl : PO X lo tl) (hu : PO X hi th) : PE X (.Subscript e (.Slice lo hi none p2) pos) (tSl r te tl th) := by
  intro pins s σ H Q I h
  refine Subscript_ (thn (he pins s σ H _ I h) fun v s1 ⟨x, H1, I1, r1, q1⟩ => ?_)
  refine wpAny_Slice (thn (hl pins s1 σ H1 _ I1 q1) fun vl s2 ⟨l, H2, I2, pl, q2⟩ => thn (hu pins s2 σ H2 _ I2 q2) fun vu s3 ⟨u, H3, I3, pu, q3⟩ => ?_)
  rw [evalPart_none]
  refine wpAny_pure ?_
  have I4 : Inv X pins σ H3 { s3 with heap := s3.heap.push { cls := .type "slice", data := .fields #[vl, vu, .none] } } := I3.kept (t' := s3.toks) fun b ob q => Heap.get?_push_of_some _ q
  obtain ⟨T, id, hT, ht, hg⟩ := hr pins { s3 with heap := s3.heap.push { cls := .type "slice", data := .fields #[vl, vu, .none] } } σ H3 x v vl vu l u s3.heap.objs.size Q I4 r1 (Heap.IsSliceOf.new ..) pl pu q3
  show wpAny (model X.prog X.w) X.A (subscriptTail e (.Slice lo hi none p2) v (.ref s3.heap.objs.size)) (EP X pins σ Q) X.xe { s3 with heap := s3.heap.push { cls := .type "slice", data := .fields #[vl, vu, .none] } }
  exact tail_any (ops := [.ref s3.heap.objs.size, v]) ht hT hg (by with_unfolding_all rfl)

/-- the items of xs[lo:hi] -/
def cutV (xs : List V) (lo hi : Option Int) : List V := (xs.drop (HT.sIx xs.length 0 lo)).take (HT.sIx xs.length xs.length hi - HT.sIx xs.length 0 lo)
theorem cutV_length (xs : List V) (lo hi : Option Int) : (cutV xs lo hi).length ≤ xs.length := by
  unfold cutV
  rw [List.length_take, List.length_drop]
  omega
/-- t[lo:hi], not the whole of it (the whole would be t itself) -/
def rSlT (K : PySem.W.Frag) : V → Option Int → Option Int → Hp → VK → Prop := fun x lo hi H Q => ∃ a xs, x = .ref a ∧ SqT K H a xs ∧
  ¬ (HT.sIx xs.length 0 lo = 0 ∧ HT.sIx xs.length xs.length hi = xs.length) ∧ ∀ p, H p = none → Q (.ref p) (upd H p (.tup (cutV xs lo hi)))
theorem sl_tup : SlR X (rSlT X.K) := by
  intro pins s σ H x v vl vu lo hi sl Q I rx hs pl pu h
  obtain ⟨a, xs, rfl, hx, hw, q⟩ := h
  cases rx
  obtain ⟨its, r, ht, hz⟩ := I.tuple hx
  have hlen : its.toArray.size = xs.length := by rw [List.size_toArray]; exact r.length.symm
  refine ⟨"tuple", _, PyProof.Rows.slot_tuple_getitem.lookup, ht.typeIs, ?_⟩
  refine HT.getItem_tuple_cut ht hs pl pu (by rw [hlen]; exact hw) ?_ (by rw [hlen]; exact hz)
  rw [hlen]
  refine ⟨.ref s.heap.objs.size, _, I.laid (t' := s.toks) (o := .tup (cutV xs lo hi)) (fun b ob q => Heap.get?_push_of_some _ q) (Nat.le_refl _) ?_, rfl, q _ (I.hok.fresh (Nat.le_refl _))⟩
  exact ⟨Nat.le_trans (cutV_length xs lo hi) hz, _, (r.drop (HT.sIx xs.length 0 lo)).take (HT.sIx xs.length xs.length hi - HT.sIx xs.length 0 lo), IsTup.new _ _⟩

/-! ### t < u, t + u -/
def rLtT (K : PySem.W.Frag) : R2 := fun x y H Q => ∃ a b ns ms, x = .ref a ∧ y = .ref b ∧ SqT K H a (ns.map V.int) ∧ SqT K H b (ms.map V.int) ∧ Q (.bl (HT.lexLt ns ms)) H
/-- t + u, t not empty: u empty gives t itself -/
def rCatT (K : PySem.W.Frag) : R2 := fun x y H Q => ∃ a b xs ys, x = .ref a ∧ y = .ref b ∧ SqT K H a xs ∧ SqT K H b ys ∧ xs ≠ [] ∧ xs.length + ys.length ≤ sizeLine ∧
  (ys = [] → Q (.ref a) H) ∧ (ys ≠ [] → ∀ p, H p = none → Q (.ref p) (upd H p (.tup (xs ++ ys))))
theorem Vals.nil_iff {xs : List V} {us : List Value} (r : Vals xs us) : us = [] ↔ xs = [] := by
  cases r with
  | nil => simp
  | cons _ _ => simp
theorem op_catT : OpR X (binaryOp .Add) (rCatT X.K) := by
  intro pins s σ H x y v u Q I rx ry h
  obtain ⟨a, b, xs, ys, rfl, rfl, ha, hb, hx, hz, q1, q2⟩ := h
  cases rx
  cases ry
  obtain ⟨its, r1, p1, _⟩ := I.tuple ha
  obtain ⟨its2, r2, p2, _⟩ := I.tuple hb
  refine HT.cat_tup p1 p2 (fun z => hx (r1.nil_iff.mp z)) (fun z => ⟨.ref a, H, I, rfl, q1 (r2.nil_iff.mp z)⟩) (fun z => ?_) (by rw [← r1.length, ← r2.length]; exact hz)
  refine ⟨.ref s.heap.objs.size, _, I.laid (t' := s.toks) (o := .tup (xs ++ ys)) (fun b ob q => Heap.get?_push_of_some _ q) (Nat.le_refl _) ?_, rfl, q2 (fun w => z (r2.nil_iff.mpr w)) _ (I.hok.fresh (Nat.le_refl _))⟩
  exact ⟨by rw [List.length_append]; exact hz, _, r1.append r2, IsTup.new _ _⟩
end
end L2

namespace L2
open PySem PySem.Spec PyProof.Rows

/-! ### places -/
/-- the place that an index of any sign means -/
def ixN (n : Nat) (i : Int) : Option Nat := if 0 ≤ i then (if i < n then some i.toNat else none) else if -(n : Int) ≤ i then some (i + n).toNat else none
def atI {α : Type} (xs : List α) (i : Int) : Option α := (ixN xs.length i).bind fun j => xs[j]?
theorem ixN_seq {n : Nat} {i : Int} {j : Nat} (h : ixN n i = some j) : seqIndex? i n = some j ∧ j < n ∧ -(n : Int) ≤ i ∧ i < n := by
  unfold ixN at h
  by_cases h0 : 0 ≤ i
  · rw [if_pos h0] at h
    by_cases h1 : i < n
    · rw [if_pos h1] at h
      have e : i.toNat = j := Option.some.inj h
      exact ⟨by rw [seqIndex_of h0 h1, e], by omega, by omega, h1⟩
    · rw [if_neg h1] at h; cases h
  · rw [if_neg h0] at h
    by_cases h1 : -(n : Int) ≤ i
    · rw [if_pos h1] at h
      have e : (i + n).toNat = j := Option.some.inj h
      exact ⟨by rw [seqIndex_neg (by omega) h1, e], by omega, h1, by omega⟩
    · rw [if_neg h1] at h; cases h
theorem atI_get {α : Type} {xs : List α} {i : Int} {v : α} (h : atI xs i = some v) : ∃ j, seqIndex? i xs.length = some j ∧ xs[j]? = some v ∧ j < xs.length ∧ -(xs.length : Int) ≤ i ∧ i < xs.length := by
  unfold atI at h
  cases e : ixN xs.length i with
  | none => rw [e] at h; cases h
  | some j =>
    rw [e] at h
    obtain ⟨h1, h2, h3, h4⟩ := ixN_seq e
    exact ⟨j, h1, h, h2, h3, h4⟩
/-! ### what may be subscripted -/
/-- what stands as an index of a plain subscript -/
def PlainIx (b : Expr) : Prop := ∀ o i, subscripted b false o i = operate [o, i] (getItem o i)
/-- a subscript by values -/
def IxR (X : Cx) (r : R2) : Prop :=
  ∀ (value slice : Expr) (pins : List (Addr × Obj)) (s : Shared) (σ : St) (H : Hp) (x y : V) (v u : Value) (Q : VK), Inv X pins σ H s → RelV x v → RelV y u → r x y H Q →
    subscripted slice false v u = operate [v, u] (getItem v u) → wpAny (model X.prog X.w) X.A (subscriptTail value slice v u) (EP X pins σ Q) X.xe s
/-- a call of a builtin's method by values: the receiver, the arguments -/
def MtR (X : Cx) (id : String) (r : V → List V → Hp → VK → Prop) : Prop :=
  ∀ (pins : List (Addr × Obj)) (s : Shared) (σ : St) (H : Hp) (x : V) (xs : List V) (v : Value) (us : List Value) (Q : VK), Inv X pins σ H s → RelV x v → Vals xs us → r x xs H Q →
    wpAny (model X.prog X.w) X.A (call (.builtin id) (v :: us)) (EP X pins σ Q) X.xe s
section
variable {X : Cx} {a b : Expr} {ta tb : TE} {pos : Pos}
theorem IxR.or {r r' : R2} (h : IxR X r) (h' : IxR X r') : IxR X (fun x y H Q => r x y H Q ∨ r' x y H Q) := by
  intro value slice pins s σ H x y v u Q I rx ry q hs
  rcases q with q | q
  · exact h value slice pins s σ H x y v u Q I rx ry q hs
  · exact h' value slice pins s σ H x y v u Q I rx ry q hs
theorem MtR.or {id : String} {r r' : V → List V → Hp → VK → Prop} (h : MtR X id r) (h' : MtR X id r') : MtR X id (fun x xs H Q => r x xs H Q ∨ r' x xs H Q) := by
  intro pins s σ H x xs v us Q I rx rs q
  rcases q with q | q
  · exact h pins s σ H x xs v us Q I rx rs q
  · exact h' pins s σ H x xs v us Q I rx rs q
/-- a[b] -/
theorem pe_ix {r : R2} (hr : IxR X r) (ha : PE X a ta) (hb : PE X b tb) (hs : PlainIx b) : PE X (.Subscript a b pos) (tOp r ta tb) := by
  intro pins s σ H Q I h
  exact Subscript_ (binT ha hb I h fun v u s2 x y H2 I2 rx ry q => hr a b pins s2 σ H2 x y v u Q I2 rx ry q (hs _ _))

def rIxL (K : PySem.W.Frag) : R2 := fun x y H Q => ∃ p xs i v, x = .ref p ∧ y = .int i ∧ SqL K H p xs ∧ atI xs i = some v ∧ Q v H
def rIxT (K : PySem.W.Frag) : R2 := fun x y H Q => ∃ p xs i v, x = .ref p ∧ y = .int i ∧ SqT K H p xs ∧ atI xs i = some v ∧ Q v H
def rIxS : R2 := fun x y H Q => ∃ z i c, x = .str z ∧ y = .int i ∧ z.length ≤ sizeLine ∧ atI z.cps.toList i = some c ∧ Q (.str ⟨#[c]⟩) H
theorem ix_list : IxR X (rIxL X.K) := by
  intro value slice pins s σ H x y v u Q I rx ry h hs
  obtain ⟨p, xs, i, z, rfl, rfl, hq, he, q⟩ := h
  cases rx
  obtain ⟨t, rfl⟩ := ry
  obtain ⟨its, r, pl, hz⟩ := I.list hq
  obtain ⟨j, h1, h2, h3, h4, h5⟩ := atI_get he
  obtain ⟨w, ew, rw'⟩ := r.get h2
  have hl := r.length
  have hn := line63
  have fin : EP X pins σ Q w s := ⟨z, H, I, rw', q⟩
  by_cases h0 : 0 ≤ i
  · have hj : i.toNat = j := by
      rw [seqIndex_of h0 h5] at h1
      exact Option.some.inj h1
    exact item_listR pl.isList h0 (by omega) (by rw [hj]; simpa using ew) fin hs
  · have hj : (i + (its.toArray.size : Int)).toNat = j := by
      rw [seqIndex_neg (by omega) h4] at h1
      rw [List.size_toArray, ← hl]
      exact Option.some.inj h1
    exact subscriptTail_builtinR (x := w) pl.isList.typeIs slot_list_getitem.lookup
      (wpAny_getItem_list_neg (Q := fun r s' => r = w ∧ EP X pins σ Q r s') pl.isList (by omega) (by rw [List.size_toArray] <;> omega) (by omega) (by rw [hj]; simpa using ew) ⟨rfl, fin⟩) hs
theorem ix_tup : IxR X (rIxT X.K) := by
  intro value slice pins s σ H x y v u Q I rx ry h hs
  obtain ⟨p, xs, i, z, rfl, rfl, hq, he, q⟩ := h
  cases rx
  obtain ⟨t, rfl⟩ := ry
  obtain ⟨its, r, pl, hz⟩ := I.tuple hq
  obtain ⟨j, h1, h2, h3, h4, h5⟩ := atI_get he
  obtain ⟨w, ew, rw'⟩ := r.get h2
  have hl := r.length
  have hn := line63
  have fin : EP X pins σ Q w s := ⟨z, H, I, rw', q⟩
  exact subscriptTail_builtinR (x := w) pl.typeIs slot_tuple_getitem.lookup
    (getItem_tuple (j := j) (Q := fun r s' => r = w ∧ EP X pins σ Q r s') pl (by omega) (by omega) (by rw [List.size_toArray, ← hl]; exact h1) (by simpa using ew) ⟨rfl, fin⟩) hs
theorem ix_str : IxR X rIxS := by
  intro value slice pins s σ H x y v u Q I rx ry h hs
  obtain ⟨z, i, c, rfl, rfl, hz, he, q⟩ := h
  obtain ⟨t, rfl⟩ := rx
  obtain ⟨t', rfl⟩ := ry
  obtain ⟨j, h1, h2, h3, h4, h5⟩ := atI_get he
  have hl : z.cps.toList.length = z.length := by simp [Str.length]
  rw [hl] at h1 h4 h5
  have hn := line63
  exact tail_any (typeIs_str s z t) slot_str_getitem.lookup (getItem_str (c := c) (by
    have e1 : decide (i < -(2 ^ 63 : Int)) = false := decide_eq_false (by omega)
    have e2 : decide (i ≥ 2 ^ 63) = false := decide_eq_false (by omega)
    rw [e1, e2, Bool.or_false]) (by rw [h1]; simpa using h2) ⟨.str ⟨#[c]⟩, H, I.tok _, ⟨_, rfl⟩, q⟩) hs
/-- list, tuple or str -/
def rIx (K : PySem.W.Frag) : R2 := fun x y H Q => rIxL K x y H Q ∨ rIxT K x y H Q ∨ rIxS x y H Q
theorem ix_seq : IxR X (rIx X.K) := ix_list.or (ix_tup.or ix_str)

/-! ### xs[i] = v, any sign -/
theorem Inv.lst {pins : List (Addr × Obj)} {σ : St} {H : Hp} {s : Shared} {p : Addr} {xs : List V} (I : Inv X pins σ H s) (h : H p = some (.lst xs)) :
    ∃ (its : List Value) (n : Nat), Vals xs its ∧ s.heap.get? p = some { cls := .type "list", data := .seq its.toArray n } ∧ xs.length ≤ sizeLine := by
  obtain ⟨z, its, n, r, e⟩ := I.hok p _ h
  exact ⟨its, n, r, e, z⟩
def rSetL : V → V → V → Hp → (Hp → Prop) → Prop := fun o i v H Q => ∃ p xs k j, o = .ref p ∧ i = .int k ∧ H p = some (.lst xs) ∧ ixN xs.length k = some j ∧ Q (upd H p (.lst (xs.set j v)))
/-! ### slices -/
theorem slice_bounds (lo hi : Option Int) (n : Nat) : (sliceBounds lo hi none n).1 = ((HT.sIx n 0 lo : Nat) : Int) ∧ (sliceBounds lo hi none n).2.1 = ((HT.sIx n n hi : Nat) : Int) ∧ (sliceBounds lo hi none n).2.2 = 1 := by
  refine ⟨?_, ?_, rfl⟩
  · cases lo with
    | none => simp [sliceBounds, HT.sIx]
    | some i =>
      simp only [sliceBounds, HT.sIx, Option.getD_none, show (1 : Int) > 0 by decide, if_true]
      by_cases h : i < 0
      · simp only [h, if_true] <;> omega
      · simp only [h, if_false] <;> omega
  · cases hi with
    | none => simp [sliceBounds, HT.sIx]
    | some i =>
      simp only [sliceBounds, HT.sIx, Option.getD_none, show (1 : Int) > 0 by decide, if_true]
      by_cases h : i < 0
      · simp only [h, if_true] <;> omega
      · simp only [h, if_false] <;> omega
theorem slicePick_cut (its : List Value) (lo hi : Option Int) : slicePick its.toArray lo hi none = ((its.drop (HT.sIx its.length 0 lo)).take (HT.sIx its.length its.length hi - HT.sIx its.length 0 lo)).toArray := by
  obtain ⟨h1, h2, h3⟩ := slice_bounds lo hi its.toArray.size
  unfold slicePick
  rw [h1, h2, h3]
  simp only [sliceRange_one, pick_run, List.size_toArray] <;> rfl
/-- xs[lo:hi] of a list: a new list -/
def rSlL (K : PySem.W.Frag) : V → Option Int → Option Int → Hp → VK → Prop := fun x lo hi H Q => ∃ a xs, x = .ref a ∧ SqL K H a xs ∧ ∀ p, H p = none → Q (.ref p) (upd H p (.lst (cutV xs lo hi)))
theorem sl_list : SlR X (rSlL X.K) := by
  intro pins s σ H x v vl vu lo hi sl Q I rx hs pl pu h
  obtain ⟨a, xs, rfl, hx, q⟩ := h
  cases rx
  obtain ⟨its, r, ht, hz⟩ := I.list hx
  have hlen := r.length
  refine ⟨"list", _, slot_list_getitem.lookup, ht.isList.typeIs, ?_⟩
  refine wpAny_getItem_list_slice ht.isList hs pl pu .none (by simp) ?_ (by rw [List.size_toArray] <;> omega)
  rw [slicePick_cut, ← hlen]
  refine ⟨.ref s.heap.objs.size, _, I.laid (t' := s.toks) (o := .lst (cutV xs lo hi)) (fun b ob q => Heap.get?_push_of_some _ q) (Nat.le_refl _) ?_, rfl, q _ (I.hok.fresh (Nat.le_refl _))⟩
  exact ⟨Nat.le_trans (cutV_length xs lo hi) hz, _, 0, (r.drop (HT.sIx xs.length 0 lo)).take (HT.sIx xs.length xs.length hi - HT.sIx xs.length 0 lo), Heap.get?_push_size _ rfl⟩

/-! ### in, not in: flat items -/
def flatV : V → Bool
  | .non => true
  | .bl _ => true
  | .int _ => true
  | .str _ => true
  | _ => false
/-- == of flat values -/
def eqV : V → V → Bool
  | .non, .non => true
  | .bl a, .bl b => a == b
  | .bl a, .int b => (if a then 1 else 0) == b
  | .int a, .bl b => a == (if b then 1 else 0)
  | .int a, .int b => a == b
  | .str a, .str b => a == b
  | _, _ => false
theorem eqAt_V {A : Around} {s : Shared} {y x : V} {u v : Value} (ry : RelV y u) (rx : RelV x v) (fy : flatV y = true) (fx : flatV x = true) : SeqAt.EqAt A s u v (eqV y x) := by
  cases y with
  | non =>
    cases ry
    cases x with
    | non => cases rx; exact SeqAt.EqAt.same _
    | bl b => cases rx; exact SeqAt.EqAt.none_bool b
    | int b => obtain ⟨t, rfl⟩ := rx; exact SeqAt.EqAt.none_int b t
    | str b => obtain ⟨t, rfl⟩ := rx; exact SeqAt.EqAt.none_str b t
    | _ => exact absurd (show false = true from fx) Bool.false_ne_true
  | bl a =>
    cases ry
    cases x with
    | non => cases rx; exact SeqAt.EqAt.bool_none a
    | bl b => cases rx; exact SeqAt.EqAt.bool_bool a b
    | int b => obtain ⟨t, rfl⟩ := rx; exact SeqAt.EqAt.bool_int a b t
    | str b => obtain ⟨t, rfl⟩ := rx; exact SeqAt.EqAt.bool_str a b t
    | _ => exact absurd (show false = true from fx) Bool.false_ne_true
  | int a =>
    obtain ⟨t', rfl⟩ := ry
    cases x with
    | non => cases rx; exact SeqAt.EqAt.int_none a t'
    | bl b => cases rx; exact SeqAt.EqAt.int_bool a t' b
    | int b => obtain ⟨t, rfl⟩ := rx; exact SeqAt.EqAt.int_int a t' b t
    | str b => obtain ⟨t, rfl⟩ := rx; exact SeqAt.EqAt.int_str a t' b t
    | _ => exact absurd (show false = true from fx) Bool.false_ne_true
  | str a =>
    obtain ⟨t', rfl⟩ := ry
    cases x with
    | non => cases rx; exact SeqAt.EqAt.str_none a t'
    | bl b => cases rx; exact SeqAt.EqAt.str_bool a t' b
    | int b => obtain ⟨t, rfl⟩ := rx; exact SeqAt.EqAt.str_int a t' b t
    | str b => obtain ⟨t, rfl⟩ := rx; exact SeqAt.EqAt.str_str a t' b t
    | _ => exact absurd (show false = true from fx) Bool.false_ne_true
  | _ => exact absurd (show false = true from fy) Bool.false_ne_true
/-- the items' answers, read off the values (a value's own answer does not lean on its token) -/
def eqU (x : V) (u : Value) : Bool := match u with
  | .none => eqV .non x
  | .bool b => eqV (.bl b) x
  | .int i _ => eqV (.int i) x
  | .str z _ => eqV (.str z) x
  | _ => false
theorem eqU_of {x y : V} {u : Value} (r : RelV y u) (f : flatV y = true) : eqU x u = eqV y x := by
  cases y with
  | non => cases r; rfl
  | bl b => cases r; rfl
  | int i => obtain ⟨t, rfl⟩ := r; rfl
  | str z => obtain ⟨t, rfl⟩ := r; rfl
  | _ => exact absurd (show false = true from f) Bool.false_ne_true
theorem any_eqU {x : V} : ∀ {xs : List V} {us : List Value}, Vals xs us → xs.all flatV = true → us.any (eqU x) = xs.any fun y => eqV y x
  | _, _, .nil, _ => rfl
  | y :: xs, u :: us, .cons r t, f => by
    rw [List.all_cons, Bool.and_eq_true] at f
    rw [List.any_cons, List.any_cons, eqU_of r f.1, any_eqU t f.2]
theorem mem_eqAt {A : Around} {s : Shared} {x : V} {v : Value} (rx : RelV x v) (fx : flatV x = true) : ∀ {xs : List V} {us : List Value}, Vals xs us → xs.all flatV = true → ∀ u ∈ us, SeqAt.EqAt A s u v (eqU x u)
  | _, _, .nil, _ => fun u hu => by cases hu
  | y :: xs, u :: us, .cons r t, f => fun u' hu => by
    rw [List.all_cons, Bool.and_eq_true] at f
    rcases List.mem_cons.mp hu with rfl | hu
    · rw [eqU_of r f.1]; exact eqAt_V r rx f.1 fx
    · exact mem_eqAt rx fx t f.2 u' hu
def inV (x : V) (xs : List V) : Bool := xs.any fun y => eqV y x
/-- x in a list or tuple of flat items -/
def rIn (K : PySem.W.Frag) (neg : Bool) : R2 := fun x y H Q => ∃ p xs, y = .ref p ∧ (SqL K H p xs ∨ SqT K H p xs) ∧ flatV x = true ∧ xs.all flatV = true ∧ Q (.bl (if neg then !inV x xs else inV x xs)) H
theorem op_in_seq : OpR X (compareOp .In) (rIn X.K false) := by
  intro pins s σ H x y v u Q I rx ry h
  obtain ⟨p, xs, rfl, hq, fx, fs, q⟩ := h
  cases ry
  rcases hq with hq | hq
  · obtain ⟨its, r, pl, hz⟩ := I.list hq
    refine SeqAt.in_listAt (eqU x) pl.isList (fun w hw => mem_eqAt rx fx r fs w (by simpa using hw)) ⟨.bl _, H, I, rfl, ?_⟩
    rw [show its.toArray.any (eqU x) = its.any (eqU x) by simp, any_eqU r fs]
    exact q
  · obtain ⟨its, r, pl, hz⟩ := I.tuple hq
    refine SeqAt.in_tupleAt (eqU x) pl (fun w hw => mem_eqAt rx fx r fs w (by simpa using hw)) ⟨.bl _, H, I, rfl, ?_⟩
    rw [show its.toArray.any (eqU x) = its.any (eqU x) by simp, any_eqU r fs]
    exact q
theorem op_notIn_seq : OpR X (compareOp .NotIn) (rIn X.K true) := by
  intro pins s σ H x y v u Q I rx ry h
  obtain ⟨p, xs, rfl, hq, fx, fs, q⟩ := h
  cases ry
  rcases hq with hq | hq
  · obtain ⟨its, r, pl, hz⟩ := I.list hq
    refine SeqAt.notIn_listAt (eqU x) pl.isList (fun w hw => mem_eqAt rx fx r fs w (by simpa using hw)) ⟨.bl _, H, I, rfl, ?_⟩
    rw [show its.toArray.any (eqU x) = its.any (eqU x) by simp, any_eqU r fs]
    exact q
  · obtain ⟨its, r, pl, hz⟩ := I.tuple hq
    refine SeqAt.notIn_tupleAt (eqU x) pl (fun w hw => mem_eqAt rx fx r fs w (by simpa using hw)) ⟨.bl _, H, I, rfl, ?_⟩
    rw [show its.toArray.any (eqU x) = its.any (eqU x) by simp, any_eqU r fs]
    exact q
/-! ### len, list(x), tuple(x) of any list or tuple that is read -/
theorem call_len_seq : CallR X (.builtin "len") (fun xs H Q => ∃ p ys, xs = [.ref p] ∧ (SqL X.K H p ys ∨ SqT X.K H p ys) ∧ Q (.int ys.length) H) := by
  intro pins s σ H xs us Q I r h
  obtain ⟨p, ys, rfl, hq, q⟩ := h
  obtain ⟨u, rfl, rx⟩ := vals1 r
  cases rx
  have hn := line63
  rcases hq with hq | hq
  · obtain ⟨its, r', pl, hz⟩ := I.list hq
    have hlen := r'.length
    exact Calls.call_len_list pl.isList (by simp only [List.size_toArray] <;> omega) ⟨.int ys.length, H, I.tok _, ⟨s.toks + 1, by rw [List.size_toArray, hlen]⟩, q⟩
  · obtain ⟨its, r', pl, hz⟩ := I.tuple hq
    have hlen := r'.length
    exact len_tuple pl (by simp only [List.size_toArray] <;> omega) ⟨.int ys.length, H, I.tok _, ⟨s.toks + 1, by rw [List.size_toArray, hlen]⟩, q⟩
theorem call_len_str : CallR X (.builtin "len") (fun xs H Q => ∃ z, xs = [.str z] ∧ z.length ≤ sizeLine ∧ Q (.int z.length) H) := by
  intro pins s σ H xs us Q I r h
  obtain ⟨z, rfl, hz, q⟩ := h
  obtain ⟨u, rfl, t, rfl⟩ := vals1 r
  have hn := line63
  exact len_str (by omega) ⟨.int z.length, H, I.tok _, ⟨_, rfl⟩, q⟩
theorem CallR.or {f : Value} {r r' : List V → Hp → VK → Prop} (h : CallR X f r) (h' : CallR X f r') : CallR X f (fun xs H Q => r xs H Q ∨ r' xs H Q) := by
  intro pins s σ H xs us Q I rs q
  rcases q with q | q
  · exact h pins s σ H xs us Q I rs q
  · exact h' pins s σ H xs us Q I rs q
theorem call_list_of : CallR X (.type "list") (fun xs H Q => ∃ p ys, xs = [.ref p] ∧ (SqL X.K H p ys ∨ SqT X.K H p ys) ∧ ∀ l, H l = none → Q (.ref l) (upd H l (.lst ys))) := by
  intro pins s σ H xs us Q I r h
  obtain ⟨p, ys, rfl, hq, q⟩ := h
  obtain ⟨u, rfl, rx⟩ := vals1 r
  cases rx
  have fin : ∀ (its : List Value), Vals ys its → ys.length ≤ sizeLine → ∀ (h' : Heap) (c' : Nat), (∀ b o', s.heap.get? b = some o' → h'.get? b = some o') →
      h'.get? s.heap.objs.size = some { cls := .type "list", dict := none, data := .seq its.toArray c', slots := #[] } → EP X pins σ Q (.ref s.heap.objs.size) { s with heap := h' } := fun its r' hz h' c' kp e =>
    ⟨.ref s.heap.objs.size, _, I.laid (t' := s.toks) kp (Nat.le_refl _) (show ObjOk X.prog X.w _ h' _ (.lst ys) from ⟨hz, its, c', r', e⟩), rfl, q _ (I.hok.fresh (Nat.le_refl _))⟩
  rcases hq with hq | hq
  · obtain ⟨its, r', pl, hz⟩ := I.list hq
    have hlen := r'.length
    obtain ⟨o, ho, hc, n, hd⟩ := pl.isList
    exact call_list_seq p (.inl rfl) ho hc hd (fun h' c' kp e => fin its r' hz h' c' kp e) (by simp only [List.size_toArray] <;> omega)
  · obtain ⟨its, r', pl, hz⟩ := I.tuple hq
    have hlen := r'.length
    obtain ⟨o, ho, hc, n, hd⟩ := pl
    exact call_list_seq p (.inr rfl) ho hc hd (fun h' c' kp e => fin its r' hz h' c' kp e) (by simp only [List.size_toArray] <;> omega)
theorem call_tuple_of : CallR X (.type "tuple") (fun xs H Q => ∃ p ys, xs = [.ref p] ∧ ((SqL X.K H p ys ∧ ∀ l, H l = none → Q (.ref l) (upd H l (.tup ys))) ∨ (SqT X.K H p ys ∧ Q (.ref p) H))) := by
  intro pins s σ H xs us Q I r h
  obtain ⟨p, ys, rfl, h⟩ := h
  obtain ⟨u, rfl, rx⟩ := vals1 r
  cases rx
  rcases h with ⟨hq, q⟩ | ⟨hq, q⟩
  · obtain ⟨its, r', pl, hz⟩ := I.list hq
    have hlen := r'.length
    refine call_tuple_list pl.isList (fun h' kp => ?_) (by simp only [List.size_toArray] <;> omega)
    have I1 : Inv X pins σ H { s with heap := h' } := I.kept (t' := s.toks) kp
    have I2 : Inv X pins σ (upd H h'.objs.size (.tup ys)) { s with heap := h'.push { cls := .type "tuple", data := .seq its.toArray } } :=
      I1.laid (t' := s.toks) (fun b o e => Heap.get?_push_of_some _ e) (Nat.le_refl _) (show ObjOk X.prog X.w _ _ _ (.tup ys) from ⟨hz, its, r', IsTup.new _ _⟩)
    exact ⟨.ref h'.objs.size, _, I2, rfl, q _ (I1.hok.fresh (Nat.le_refl _))⟩
  · obtain ⟨its, r', pl, hz⟩ := I.tuple hq
    exact call_tuple_same pl ⟨.ref p, H, I, rfl, q⟩

/-! ### the call of a builtin's method: o.m(..) -/
/-- the value is of that builtin type -/
def tyV (K : PySem.W.Frag) (T : String) (x : V) (H : Hp) : Prop := match x with
  | .str _ => T = "str"
  | .int _ => T = "int"
  | .ref p => (T = "list" ∧ ∃ xs, SqL K H p xs) ∨ (T = "tuple" ∧ ∃ o, K.lookup p = some o ∧ o.cls = .type "tuple" ∧ o.dict = none) ∨
      (T = "dict" ∧ ((∃ kvs, H p = some (.dK kvs)) ∨ ∃ kvs, H p = some (.dT kvs))) ∨ (T = "set" ∧ ∃ S n, H p = some (.set S n))
  | _ => False
theorem tyV_is {pins : List (Addr × Obj)} {σ : St} {H : Hp} {s : Shared} {T : String} {x : V} {v : Value} (I : Inv X pins σ H s) (r : RelV x v) (ty : tyV X.K T x H) :
    s.TypeIs v T ∧ ∀ a, v = .ref a → ∃ ob, s.heap.get? a = some ob ∧ ob.dict = none := by
  cases x with
  | str z =>
    obtain ⟨t, rfl⟩ := r
    cases (show T = "str" from ty)
    exact ⟨typeIs_str s z t, fun _ e => nomatch e⟩
  | int i =>
    obtain ⟨t, rfl⟩ := r
    cases (show T = "int" from ty)
    exact ⟨typeIs_int s i t, fun _ e => nomatch e⟩
  | ref p =>
    cases r
    rcases ty with ⟨rfl, xs, hq⟩ | ⟨rfl, o, hk, hc, hd⟩ | ⟨rfl, hk⟩ | ⟨rfl, S, n, hk⟩
    · obtain ⟨its, _, pl, _⟩ := I.list hq
      refine ⟨pl.isList.typeIs, fun a e => ?_⟩
      cases e
      obtain ⟨o, n, e, c, hd, _⟩ := pl
      exact ⟨o, e, hd⟩
    · refine ⟨⟨o, I.kIn p o hk, hc⟩, fun a e => ?_⟩
      cases e
      exact ⟨o, I.kIn _ o hk, hd⟩
    · have z : ∃ o, s.heap.get? p = some o ∧ o.ExactDict := by
        rcases hk with ⟨kvs, hk⟩ | ⟨kvs, hk⟩
        · obtain ⟨_, _, _, _, o, _, _, e, ex, _⟩ := I.hok p _ hk
          exact ⟨o, e, ex⟩
        · obtain ⟨_, _, _, _, o, _, _, e, ex, _⟩ := I.hok p _ hk
          exact ⟨o, e, ex⟩
      obtain ⟨o, e, ex⟩ := z
      refine ⟨⟨o, e, ex.1⟩, fun a e2 => ?_⟩
      cases e2
      exact ⟨o, e, ex.2.1⟩
    · obtain ⟨o, _, _, _, e, ex, _⟩ := I.hok p _ hk
      refine ⟨⟨o, e, ex.1⟩, fun a e2 => ?_⟩
      cases e2
      exact ⟨o, e, ex.2.1⟩
  | _ => exact False.elim ty
def tBM0 (K : PySem.W.Frag) (T : String) (r : V → List V → Hp → VK → Prop) (to : TE) : TE := fun σ H Q => to σ H fun x H1 => tyV K T x H1 ∧ r x [] H1 Q
def tBM (K : PySem.W.Frag) (T : String) (r : V → List V → Hp → VK → Prop) (to : TE) (t : TA) : TE := fun σ H Q => to σ H fun x H1 => tyV K T x H1 ∧ t σ H1 fun xs H2 => r x xs H2 Q
variable {o e : Expr} {es : List Expr} {to : TE} {t : TA} {name : Str} {apos cpos : Pos} {T id : String} {r : V → List V → Hp → VK → Prop}
/- xs.append(e), list.index on a module's tuple .. are MtR facts of 06m -/
end
end L2

namespace L2
open PySem PySem.Spec PyProof.Rows

def MtM (X : Cx) (id : String) (r : V → List V → Hp → VK → Prop) : Prop :=
  ∀ (pins : List (Addr × Obj)) (s : Shared) (σ : St) (H : Hp) (x : V) (xs : List V) (v : Value) (us : List Value) (Q : VK), Inv X pins σ H s → RelV x v → Vals xs us → r x xs H Q →
    wpAny (model X.prog X.w) X.A (call (.builtin id) (v :: us)) (EP X pins σ Q) X.xe s

/-! ### lists of values -/
theorem Vals.one : ∀ {x : V} {us : List Value}, Vals [x] us → ∃ u, us = [u] ∧ RelV x u
  | _, _, .cons r .nil => ⟨_, rfl, r⟩
theorem Vals.two : ∀ {x y : V} {us : List Value}, Vals [x, y] us → ∃ u v, us = [u, v] ∧ RelV x u ∧ RelV y v
  | _, _, _, .cons r (.cons q .nil) => ⟨_, _, rfl, r, q⟩
theorem Vals.zero : ∀ {us : List Value}, Vals [] us → us = []
  | _, .nil => rfl
theorem Vals.dropLast {xs : List V} {us : List Value} (h : Vals xs us) : Vals xs.dropLast us.dropLast := by
  induction h with
  | nil => exact .nil
  | cons r t ih =>
    cases t with
    | nil => exact .nil
    | cons q t' => exact .cons r ih
theorem Vals.eraseIdx : ∀ {xs : List V} {us : List Value} (i : Nat), Vals xs us → Vals (xs.eraseIdx i) (us.eraseIdx i)
  | _, _, _, .nil => .nil
  | _, _, 0, .cons _ t => t
  | _, _, i + 1, .cons r t => .cons r (Vals.eraseIdx i t)
theorem Vals.reverse {xs : List V} {us : List Value} (h : Vals xs us) : Vals xs.reverse us.reverse := by
  induction h with
  | nil => exact .nil
  | cons r t ih => rw [List.reverse_cons, List.reverse_cons]; exact Vals.append ih (.cons r .nil)
section
variable {X : Cx} {pins : List (Addr × Obj)} {σ : St} {H : Hp} {s : Shared} {l b : Addr} {xs ys zs : List V}

/-! ### the two steps: a tracked list is rewritten, a new list is laid -/
theorem Inv.lset {its its' : List Value} {n : Nat} {f : Array Value → Array Value} {t' : Nat} (I : Inv X pins σ H s) (hH : H l = some (.lst xs))
    (e : s.heap.get? l = some { cls := .type "list", data := .seq its.toArray n }) (hf : f its.toArray = its'.toArray) (hv : Vals ys its') (hz : ys.length ≤ sizeLine) :
    Inv X pins σ (upd H l (.lst ys)) { s with heap := s.heap.update l (Obj.mapSeq f), toks := t' } := by
  have q := PySem.IsL.update e f
  rw [hf] at q
  refine I.write (x := l) (e := l) (by rw [hH]; exact trivial) (.inl rfl) (fun b' u hb hu => (Heap.get?_update_other s.heap (Obj.mapSeq f) (Ne.symm hb)).trans hu) ⟨_, q⟩ ?_
  exact ⟨hz, its', _, hv, q⟩
theorem Inv.lnew {its : List Value} {t' : Nat} (I : Inv X pins σ H s) (hv : Vals ys its) (hz : ys.length ≤ sizeLine) :
    Inv X pins σ (upd H s.heap.objs.size (.lst ys)) { s with heap := s.heap.push { cls := .type "list", data := .seq its.toArray }, toks := t' } :=
  I.laid (fun _ _ q => Heap.get?_push_of_some _ q) (Nat.le_refl _) ⟨hz, its, 0, hv, Heap.get?_push_size _ rfl⟩
theorem Inv.fresh (I : Inv X pins σ H s) : H s.heap.objs.size = none := I.hok.fresh (Nat.le_refl _)
theorem Inv.lstM (I : Inv X pins σ H s) (hH : H l = some (.lst xs)) : xs.length ≤ sizeLine ∧ ∃ (its : List Value) (n : Nat), Vals xs its ∧ xs.length = its.length ∧ s.heap.get? l = some { cls := .type "list", data := .seq its.toArray n } := by
  obtain ⟨z, its, n, r, e⟩ := I.hok l _ hH
  exact ⟨z, its, n, r, r.length, e⟩

theorem notLongL {n : Nat} (h : n ≤ sizeLine) : Builtin.List.listTooLong n = false := by
  unfold Builtin.List.listTooLong
  exact decide_eq_false (by omega)
end

section
variable {X : Cx}

/-! ### methods -/
def rAppend : V → List V → Hp → VK → Prop := fun x vs H Q => ∃ l xs y, x = .ref l ∧ vs = [y] ∧ H l = some (.lst xs) ∧ xs.length < sizeLine ∧ Q .non (upd H l (.lst (xs ++ [y])))
theorem mt_append : MtM X "list.append" rAppend := by
  intro pins s σ H x vs v us Q I rx rv h
  obtain ⟨l, xs, y, rfl, rfl, hH, hz, q⟩ := h
  cases rx
  obtain ⟨u, rfl, ru⟩ := rv.one
  obtain ⟨z, its, n, r, hl, e⟩ := I.lstM hH
  refine call_meets F.slot_list_append ⟨_, e, rfl⟩ F.entry_list_append (F.args_list_append_2 _ _) (PySem.list_append l its.toArray n u (by rw [List.size_toArray]; omega)) ⟨e, ?_⟩
  refine ⟨.non, _, I.lset (its' := its ++ [u]) hH e (by simp) (r.append (.cons ru .nil)) ?_, rfl, q⟩
  rw [List.length_append, List.length_singleton]
  omega

def rExtend : V → List V → Hp → VK → Prop := fun x vs H Q => ∃ l b xs zs, x = .ref l ∧ vs = [.ref b] ∧ H l = some (.lst xs) ∧ H b = some (.lst zs) ∧ xs.length + zs.length ≤ sizeLine ∧ Q .non (upd H l (.lst (xs ++ zs)))
theorem mt_extend : MtM X "list.extend" rExtend := by
  intro pins s σ H x vs v us Q I rx rv h
  obtain ⟨l, b, xs, zs, rfl, rfl, hH, hB, hz, q⟩ := h
  cases rx
  obtain ⟨u, rfl, ru⟩ := rv.one
  cases ru
  obtain ⟨z, its, n, r, hl, e⟩ := I.lstM hH
  obtain ⟨z2, its2, n2, r2, hl2, e2⟩ := I.lstM hB
  have hsz : its.toArray.size + its2.toArray.size ≤ sizeLine := by rw [List.size_toArray, List.size_toArray]; omega
  have hlong : ¬ (!its.toArray.isEmpty && Builtin.List.listTooLong (its.toArray.size + its2.toArray.size)) = true := by
    rw [notLongL hsz, Bool.and_false]
    exact Bool.false_ne_true
  refine call_meets F.slot_list_extend ⟨_, e, rfl⟩ F.entry_list_extend (F.args_list_extend_2 _ _)
    (AutoSeq1.list_extend_list_list_0 l its.toArray n b its2.toArray n2 hlong (by rw [List.size_toArray]; omega) (by omega)) ⟨e, e2, ?_⟩
  refine ⟨.non, _, I.lset (its' := its ++ its2) hH e (by simp) (r.append r2) ?_, rfl, q⟩
  rw [List.length_append]
  omega

def rPop : V → List V → Hp → VK → Prop := fun x vs H Q => ∃ l xs y, x = .ref l ∧ vs = [] ∧ H l = some (.lst xs) ∧ xs[xs.length - 1]? = some y ∧ Q y (upd H l (.lst xs.dropLast))
def rPopAt : V → List V → Hp → VK → Prop := fun x vs H Q => ∃ l xs i k y, x = .ref l ∧ vs = [.int i] ∧ H l = some (.lst xs) ∧ -(2 ^ 63) ≤ i ∧ i < 2 ^ 63 ∧ seqIndex? i xs.length = some k ∧ xs[k]? = some y ∧ Q y (upd H l (.lst (xs.eraseIdx k)))
def rReverse : V → List V → Hp → VK → Prop := fun x vs H Q => ∃ l xs, x = .ref l ∧ vs = [] ∧ H l = some (.lst xs) ∧ Q .non (upd H l (.lst xs.reverse))
def rClear : V → List V → Hp → VK → Prop := fun x vs H Q => ∃ l xs, x = .ref l ∧ vs = [] ∧ H l = some (.lst xs) ∧ Q .non (upd H l (.lst []))
/-! ### list + list, list += list, list * int -/
def rCat : R2 := fun x y H Q => ∃ l b xs zs, x = .ref l ∧ y = .ref b ∧ H l = some (.lst xs) ∧ H b = some (.lst zs) ∧ xs.length + zs.length ≤ sizeLine ∧ ∀ p, H p = none → Q (.ref p) (upd H p (.lst (xs ++ zs)))
theorem op_cat : OpR X (binaryOp .Add) rCat := by
  intro pins s σ H x y v u Q I rx ry h
  obtain ⟨l, b, xs, zs, rfl, rfl, hH, hB, hz, q⟩ := h
  cases rx
  cases ry
  obtain ⟨z, its, n, r, hl, e⟩ := I.lstM hH
  obtain ⟨z2, its2, n2, r2, hl2, e2⟩ := I.lstM hB
  refine PySem.P.add_list e e2 ?_ (by rw [List.size_toArray, List.size_toArray]; omega)
  have ea : its.toArray ++ its2.toArray = (its ++ its2).toArray := by simp
  rw [ea]
  exact ⟨.ref _, _, I.lnew (t' := s.toks) (r.append r2) (by rw [List.length_append]; omega), rfl, q _ I.fresh⟩
/-- a list times an int (a negative one is nothing) -/
def rRep : R2 := fun x y H Q => ∃ l k xs, x = .ref l ∧ y = .int k ∧ H l = some (.lst xs) ∧ -(2 ^ 63) ≤ k ∧ k < 2 ^ 63 ∧ xs.length * k.toNat ≤ sizeLine ∧
  ∀ p, H p = none → Q (.ref p) (upd H p (.lst (List.replicate k.toNat xs).flatten))
/-! ### del xs[i] -/
end

/-! ### xs[a:b] = ys -/
section
variable {prog : Program} {w : World} {A : Around} {E : Value → Shared → Prop} {s : Shared}
end

section
variable {X : Cx}
end
end L2

namespace Att
open PySem PySem.W PySem.Calls PyProof.Rows

/-! ### the script -/
theorem ints_of_wellAll {P : Params} {h : Heap} : ∀ (ns : List Int) (vs : List Value), WellAll P h vs (ns.map WData.int) → IntsAre vs ns := by
  intro ns
  induction ns with
  | nil =>
    intro vs w
    rw [List.map_nil] at w
    cases w
    exact .nil
  | cons n ns ih =>
    intro vs w
    rw [List.map_cons] at w
    cases w with
    | cons a b =>
      cases a
      exact .cons _ _ (ih _ b)

theorem script_of {l : OpenLaw} {n : Nat} (hn : l.most = some n) {P : Params} {h : Heap} {args : List WData} {vals : List Value}
    (hpre : l.row.toRowW.claim.pre args = true) (hwl : WellAll P h vals args) :
    ∃ a vs ns, vals = [Value.ref a] ∧ args = [WData.list (ns.map WData.int)] ∧ h.get? a = some { cls := .type "list", data := .seq vs.toArray } ∧ IntsAre vs ns ∧ ns.length ≤ n := by
  have hsh : WShape.hasAll [] args [.list .int] = true := (pre_splitW hpre).1
  have hc : l.pre.holds [] { args := args } = true := (pre_splitW hpre).2
  obtain ⟨d, r, rfl, h1, h2⟩ := hasAllW_cons hsh
  obtain rfl := hasAllW_nil h2
  obtain ⟨xs, rfl, h3⟩ := hasW_list h1
  obtain ⟨ns, rfl⟩ := items_int h3
  have hlen : ns.length ≤ n := by
    unfold OpenLaw.pre at hc
    have h4 : (WTm.not (.lt (.lit (.int (n : Int))) (.len (.arg 0)))).holds [] { args := [.list (ns.map .int)] } = true := by
      have h4 := (holds_andW hc).1
      rw [hn] at h4
      exact h4
    have h5 := condW_of h4 (w_not (w_lt w_lit (w_len_list (w_arg rfl))))
    rw [List.length_map] at h5
    refine Nat.le_of_not_lt fun q => ?_
    have q' : (n : Int) < ((ns.length : Nat) : Int) := by omega
    first
      | (rw [decide_eq_true q'] at h5; exact absurd h5 (by decide))
      | (simp at h5; omega)
  cases hwl with
  | cons w1 w2 =>
    cases w2
    cases w1 with
    | list ho hall => exact ⟨_, _, ns, rfl, rfl, ho, ints_of_wellAll ns _ hall, hlen⟩

theorem post_true (l : OpenLaw) (args : List WData) : l.row.toRowW.claim.post args (.bool true) args = true :=
  postW_of (r := l.row.toRowW) (X := (true == true))
    (show WShape.has [] (.bool true) .bool = true by first | rfl | decide | simp [WShape.has, WShape.arms, WShape.armsAll])
    (show (WTm.eq .res (.lit (.bool true))).value [] { args := args, res := some (.bool true), after := args } = some (.bool (true == true)) from w_eq_bool (w_res rfl) w_lit) rfl

/-! ### the attachment: holds_open's last premise (the goal 'hc' behind k_head) from a wpAny of the law's body -/
/-- the same from a codeAny of the CALL (for a layer whose function contracts speak of calls) -/
theorem attach_call {l : OpenLaw} {n : Nat} {q : Program} {loose : List Str} {XP : (Str → Option Value) → Heap → Prop} {YP : World → Heap → Prop} {d : DefRec}
    (hn : l.most = some n) (hdf : d.params.defaults = [])
    (call : ∀ (w : World) (s₀ s₁ : Shared) (mg mb : Str → Option Value) (fa : Addr) (o : Obj) (pm cd doc : Value) (a : Addr) (vs : List Value) (ns : List Int),
      Ground q loose [] XP w s₀ mg mb s₁.heap → YP w s₁.heap →
      s₁.heap.get? fa = some o → o.data = .func (docDef d.name d.params d.body d.scope pm cd doc) → s₁.heap.CodeRec cd d.name → mg d.name = some (.ref fa) →
      s₁.heap.get? a = some { cls := .type "list", data := .seq vs.toArray } → IntsAre vs ns → ns.length ≤ n → s₁.gens = #[] →
      codeAny (model l.prog w) callerA (.call (.ref fa) ⟨[.ref a], []⟩) (fun r s' => r = .ok (.ret (.bool true)) ∧ OldK s₁.heap s'.heap ∧ s'.os = s₁.os ∧ AllBare s'.gens) s₁) :
    WalkO q loose XP YP l.row.toRowW d [] (fun f vs => PySem.call f vs) := by
  intro w s₀ s₁ mg mb G Y fa o pm cd doc dV kV ho hd hcd hD hmg hg args vals as hpre hlay hrd hwl hlo
  obtain rfl : dV = .none := Dflts.none hD hdf
  obtain rfl : kV = .none := Dflts.noKw hD
  obtain ⟨a, vs, ns, rfl, rfl, hobj, hints, hlen⟩ := script_of hn hpre hwl
  refine enter_call (codeAny_mono (call w s₀ s₁ mg mb fa o pm cd doc a vs ns G Y ho (fd_plain hd) hcd hmg hobj hints hlen hg) fun r s' hq => ?_)
  obtain ⟨rfl, h2, h3, h4⟩ := hq
  exact ⟨.inl ⟨.bool true, .bool true, [], rfl, fun _ => rfl, .bool true, post_true l _, fun _ => ⟨List.Pairwise.nil, fun _ hm => (nomatch hm)⟩⟩, h2, h3, h4⟩

/-! ### rules over ANY heap (no ledger) from facts about the written part K: the library's own take a ledger (News) for what they write -/
section
variable {prog : Program} {w : World} {A : Around} {E : Value → Shared → Prop} {s : Shared} {K : Frag}

/-! the whole heap as the ledger: makes every rule that writes through a ledger a rule over any heap -/
def noObjs (h : Heap) : Heap := { h with objs := #[] }
def ledger (h : Heap) (L d : Addr) : List (Addr × Obj) := (List.range h.objs.size).filterMap fun a => if a = L ∨ a = d then none else (h.get? a).map fun o => (a, o)
end
end Att

namespace L2
open PySem PySem.Spec PyProof.Rows

theorem vals_ints : ∀ {vs : List Value} {ns : List Int}, IntsAre vs ns → Vals (ns.map V.int) vs
  | _, _, .nil => .nil
  | _, _, .cons n t h => .cons ⟨t, rfl⟩ (vals_ints h)

/-- nothing is tracked but the script, known to the object (or it is an object of the module) -/
def Only (H : Hp) : Prop := ∀ b, H b = none ∨ ∃ o xs, H b = some (.frz o (.lst xs))

/-- THE HEAD: the law's promise, at the heap behind the top. F, the promise of the law's def, may use that base is part of the heap (so K.In base, base.Ns mainGlobals mg stand in Mod) -/
theorem law_call {P : Program} {w : World} {K : PySem.W.Frag} {mg mb : Str → Option Value} {CX : CXT} {k : Nat} {fa a : Addr} {fd : FuncData} {x : Str} {sp : Sp} {s₁ : Shared} {vs : List Value} {ns : List Int}
    (KX : K.In s₁.heap) (hns : s₁.heap.Ns mainGlobals mg) (hb : s₁.heap.Ns builtinsNs mb) (hbb : ∀ x : Str, x ≠ "__name__" → mb x = bootBuiltins x) (hlim : s₁.heap.NoLimit) (hg : s₁.gens = #[])
    (ha : s₁.heap.get? a = some { cls := .type "list", data := .seq vs.toArray }) (hi : IntsAre vs ns) (hl : ns.length ≤ sizeLine) (hr : Room qt k callerA)
    (F : ∀ base : Heap, K.In base → base.Ns mainGlobals mg → FnOk qt P w K mg base CX k fa fd [x] sp) (hbind : ∀ (s : Shared) (u : Value), BindsTo s fd ⟨[u], []⟩ [(x, u)])
    (hsp : ∀ H : Hp, Only H → SqL K H a (ns.map V.int) → sp [.ref a] H (fun v _ => v = .bl true) fun _ _ _ => False)
    (hCX : ∀ H e s', CX [] H s₁ (fun _ _ _ => False) e s' → False) :
    codeAny (model P w) callerA (.call (.ref fa) ⟨[.ref a], []⟩) (fun r s' => r = .ok (.ret (.bool true)) ∧ OldK s₁.heap s'.heap ∧ s'.os = s₁.os ∧ AllBare s'.gens) s₁ := by
  have rv := vals_ints hi
  have lenV := hi.length
  -- from an abstract heap in which nothing but the script may be tracked
  have core : ∀ H : Hp, Only H → SqL K H a (ns.map V.int) → HOk P w H s₁.heap → (∀ b, H b ≠ none → b = a) → (H a ≠ none → K.lookup a = none) →
      codeAny (model P w) callerA (.call (.ref fa) ⟨[.ref a], []⟩) (fun r s' => r = .ok (.ret (.bool true)) ∧ OldK s₁.heap s'.heap ∧ s'.os = s₁.os ∧ AllBare s'.gens) s₁ := by
    intro H hO hS hok hA hK
    have base_of : ∀ {b : Addr} {o : Obj}, s₁.heap.get? b = some o → H b = none → (hidT s₁.heap H).get? b = some o := fun e n => hidT_get e n
    have noA : ∀ {b : Addr} {o : Obj} {es : Array DictEntry} {ep : Nat}, s₁.heap.get? b = some o → o.data = .dict es ep → H b = none := fun {b o es ep} e d => by
      cases q : H b with
      | none => rfl
      | some u =>
        have e' : b = a := hA b (by rw [q]; simp)
        subst e'
        rw [ha] at e; cases e
        have d' : Data.seq vs.toArray _ = Data.dict es ep := d
        cases d'
    have nsK : ∀ {b : Addr} {m : Str → Option Value}, s₁.heap.Ns b m → (hidT s₁.heap H).Ns b m := fun {b m} ⟨o, es, ep, e, d, r⟩ => ⟨o, es, ep, base_of e (noA e d), d, r⟩
    have hKb : K.In (hidT s₁.heap H) := fun b o e => base_of (KX b o e) (by
      cases q : H b with
      | none => rfl
      | some u =>
        have e' : b = a := hA b (by rw [q]; simp)
        subst e'
        rw [hK (by rw [q]; simp)] at e; cases e)
    have hM : Mod K mg (hidT s₁.heap H) := ⟨hKb, nsK hns, ⟨mb, nsK hb, hbb⟩, let ⟨mc, h1, h2⟩ := hlim; ⟨mc, nsK h1, h2⟩⟩
    have e0 : Env0 P w K mg (hidT s₁.heap H) callerA [] s₁ H := ⟨rfl, hM, fun b o e => of_hidT e, Nat.le_of_eq (hidT_size _ _), trivial, fun b hb => absurd (show b ∈ ([] : List Addr) from hb) (by simp), hok, .of_eq hg, .inl rfl⟩
    refine codeAny_mono ((F _ hKb (nsK hns)).run callerA [] s₁ H ⟨[.ref a], []⟩ [.ref a] [.ref a] _ _ hr e0 (hbind s₁ (.ref a)) (.cons rfl .nil) (hsp H hO hS)) fun r s' h => ?_
    cases r with
    | error e => exact (hCX H e s' h).elim
    | ok fl =>
      cases fl with
      | next => exact False.elim h
      | brk => exact False.elim h
      | cont => exact False.elim h
      | ret u =>
        obtain ⟨v, H', os, bare, un, hok', r', q⟩ := h
        have q' : v = .bl true := q
        subst q'
        obtain rfl : u = Value.bool true := r'
        refine ⟨rfl, OldK.of_keep fun b o e => ?_, os, bare⟩
        cases q : H b with
        | none => exact un.keep b o e q (by intro z; exact absurd (show b ∈ ([] : List Addr) from z) (by simp)) (by simp)
        | some u =>
          rcases hO b with z | ⟨ob, xs, z⟩
          · rw [q] at z; cases z
          · have z2 := un.frzs b ob _ z
            obtain ⟨e1, _⟩ := hok b _ z
            obtain ⟨e2, _⟩ := hok' b _ z2
            rw [e] at e1; cases e1
            exact e2
  cases hk : K.lookup a with
  | some o =>
    -- the script is one of the module's own objects
    have e := KX a o hk
    rw [ha] at e
    cases e
    refine core (fun _ => none) (fun _ => .inl rfl) (.inr ⟨_, vs.toArray, _, hk, rfl, rfl, rfl, by rw [List.size_toArray, lenV]; exact hl, by simpa using rv⟩) (fun b u z => by have z' : (none : Option HO) = some u := z; cases z') (fun b z => absurd rfl z) fun z => absurd rfl z
  | none =>
    refine core (fun b => if b = a then some (.frz { cls := .type "list", data := .seq vs.toArray } (.lst (ns.map V.int))) else none) (fun b => ?_) (.inl (.inr ⟨{ cls := .type "list", data := .seq vs.toArray }, if_pos rfl⟩)) (fun b u z => ?_) (fun b z => ?_) fun _ => hk
    · by_cases hb : b = a
      · exact .inr ⟨_, _, if_pos hb⟩
      · exact .inl (if_neg hb)
    · by_cases hb : b = a
      · have z' := (if_pos hb).symm.trans z
        cases z'
        subst hb
        exact ⟨ha, by rw [List.length_map]; exact hl, vs, _, rv, ha⟩
      · have z' := (if_neg hb).symm.trans z
        cases z'
    · by_cases hb : b = a
      · exact hb
      · exact absurd (if_neg hb) z
end L2

namespace L2
open PySem PySem.Spec PyProof.Rows

abbrev KOf {K : PySem.W.Frag} {h : Heap} (_ : K.In h) : PySem.W.Frag := K

/-- the goal that k_head leaves (case hc), from the law's promise. F gives the function object fd (K's own) once, then the promise over every base -/
theorem walk_of {l : PySem.W.OpenLaw} {n k : Nat} {q : Program} {loose : List Str} {XP : (Str → Option Value) → Heap → Prop} {YP : World → Heap → Prop} {d : DefRec} {K : Params → PySem.W.Frag} {CX : World → CXT} {sp : World → Sp} {x : Str}
    (hn : l.most = some n) (hn2 : n ≤ sizeLine) (hdf : d.params.defaults = []) (hr : Room qt k callerA)
    (hY : ∀ (w : World) (h : Heap), YP w h → (K w.params).In h)
    (F : ∀ (w : World) (mg : Str → Option Value) (fa : Addr) (h : Heap), (K w.params).In h → h.Ns mainGlobals mg → mg d.name = some (.ref fa) →
      ∃ fd : FuncData, (∀ (s : Shared) (u : Value), BindsTo s fd ⟨[u], []⟩ [(x, u)]) ∧
        ∀ base : Heap, (K w.params).In base → base.Ns mainGlobals mg → FnOk qt l.prog w (K w.params) mg base (CX w) k fa fd [x] (sp w))
    (hsp : ∀ (w : World) (H : Hp) (a : Addr) (ns : List Int), ns.length ≤ n → Only H → SqL (K w.params) H a (ns.map V.int) → sp w [.ref a] H (fun v _ => v = .bl true) fun _ _ _ => False)
    (hCX : ∀ (w : World) (H : Hp) (s : Shared) (e : Value) (s' : Shared), CX w [] H s (fun _ _ _ => False) e s' → False) :
    PySem.W.WalkO q loose XP YP l.row.toRowW d [] (fun f vs => PySem.call f vs) := by
  refine Att.attach_call hn hdf fun w s₀ s₁ mg mb fa o pm cd doc a vs ns G Y ho hd hcd hmg hobj hints hlen hg => ?_
  have KX := hY w _ Y
  obtain ⟨fd, hb, hF⟩ := F w mg fa _ KX G.T.g hmg
  exact law_call KX G.T.g G.T.b G.T.builtins G.T.nolimit hg hobj hints (Nat.le_trans hlen hn2) hr hF hb (fun H hO hS => hsp w H a ns hlen hO hS) fun H e s' => hCX w H s₁ e s'
end L2

/- THE LAST THEOREM (shape; LID, My.* are yours):
   My.Adr: a structure of the addresses that your layer names (classes, functions); My.Txt K t: a structure (Prop) of the equations over K;
   My.txt_mk : {K} {implicit addresses ..} (e1 : nsIn K mainGlobals "law" = some (some (.ref f))) (e2 : K.lookup f = some ⟨oc, od, .func (fnOf "law" "law" params body scope dV kV doc pm an cdv ct), sl⟩) (e3 : codeIn K cdv "law" = true) .. : ∃ t, My.Txt K t

set_option maxRecDepth 100000 in
set_option maxHeartbeats 0 in
(the tactic k_is has no namespace: write k_is) -/

/-! SHORT WORDS over the layer: a def of the text, its body, what a loop and a test want. -/
namespace L2
open PySem PySem.Spec PyProof.Rows

/-! ### the text by places -/
/-- the j-th statement of a class's body -/
def inClass (s : Stmt) (j : Nat) : Stmt := match s with
  | .ClassDef _ _ _ body _ _ _ _ _ _ _ => body.getD j (.Pass ⟨0, 0, 0, 0⟩)
  | _ => .Pass ⟨0, 0, 0, 0⟩
def defArgs (s : Stmt) : Arguments := match s with
  | .FunctionDef _ a _ _ _ _ _ _ _ _ => a
  | _ => { posonlyargs := [], args := [], vararg := none, kwonlyargs := [], kw_defaults := [], kwarg := none, defaults := [] }
def defBody (s : Stmt) : List Stmt := match s with
  | .FunctionDef _ _ b _ _ _ _ _ _ _ => b
  | _ => []
def defScope (s : Stmt) : Scope := match s with
  | .FunctionDef _ _ _ _ _ _ sc _ _ _ => sc
  | _ => { kind := .function, names := [], isGenerator := false, isCoroutine := false }

/-! ### no exception leaves a def -/
abbrev CX0 : CXT := fun _ _ _ _ _ _ => False
abbrev E0 : XK := fun _ _ _ => False
/-! ### a def (or method) of the text as it stands behind the top -/
structure Fun (K : PySem.W.Frag) (x qual : Str) (st : Stmt) (f : Addr) (fd : FuncData) : Prop where
  ex : ∃ (oc : Value) (od : Option Addr) (dV kV doc pm : Value) (an : Option Addr) (cdv ct : Value) (osl : Array (Option Value)),
    fd = PySem.W.fnOf x qual (defArgs st) (defBody st) (defScope st) dV kV doc pm an cdv ct ∧ K.lookup f = some ⟨oc, od, .func fd, osl⟩ ∧ PySem.W.codeIn K cdv qual = true
  kp : PySem.W.keepIn K (.ref f) = true
section
variable {P : Program} {w : World} {K : PySem.W.Frag} {mg : Str → Option Value} {base : Heap}
/-- THE RULE for a def: its body as a term of rules, and the reading of that term -/
theorem Fun.ok {x qual : Str} {st : Stmt} {f : Addr} {fd : FuncData} {N ps : List Str} {k : Nat} {sp : Sp} (F : Fun K x qual st f fd) (S : FnScope N ps (defScope st)) (len : ∀ vs H Q E, sp vs H Q E → vs.length = ps.length)
    (hbody : ∀ (cdv : Value) (A : Around) (outer : List Env) (s : Shared) (H : Hp) (vs : List V) (Q : VK) (E : XK), Room qt k (A.deeper (envOfC qual (defScope st) s.heap.objs.size f cdv)) → sp vs H Q E →
      ∃ t, PSs (cxOf qt CX0 P w K mg base N qual (defScope st) f cdv A outer s H E).nox (defBody st) t ∧ t { nx := fun _ H' => Q .non H', rt := Q } (start N vs) H) : FnOk qt P w K mg base CX0 (k + 1) f fd ps sp := by
  obtain ⟨oc, od, dV, kV, doc, pm, an, cdv, ct, osl, rfl, lk, hcd⟩ := F.ex
  refine fn_of lk hcd S len fun A outer s H vs Q E hr hsp => ?_
  obtain ⟨t, h, q⟩ := hbody cdv A outer s H vs Q E hr hsp
  exact ⟨t, h.nox, q⟩
theorem fun_mk {x qual : Str} {st : Stmt} {f : Addr} {oc : Value} {od an : Option Addr} {osl : Array (Option Value)} {dV kV doc pm cdv ct : Value} (l : K.lookup f = some ⟨oc, od, .func (PySem.W.fnOf x qual (defArgs st) (defBody st) (defScope st) dV kV doc pm an cdv ct), osl⟩)
    (c : PySem.W.codeIn K cdv qual = true) (k : PySem.W.keepIn K (.ref f) = true) : Fun K x qual st f (PySem.W.fnOf x qual (defArgs st) (defBody st) (defScope st) dV kV doc pm an cdv ct) := ⟨⟨oc, od, dV, kV, doc, pm, an, cdv, ct, osl, rfl, l, c⟩, k⟩
end
/-! ### expressions in short: the name that stands in the i-th slot -/
section
variable {X : Cx}
end

/-! ### tests -/
/-! ### heaps -/
/-- all that was tracked is as it was -/
def Same (H H' : Hp) : Prop := ∀ b o, H b = some o → H' b = some o
theorem Same.refl (H : Hp) : Same H H := fun _ _ h => h
theorem Same.trans {H H1 H2 : Hp} (a : Same H H1) (b : Same H1 H2) : Same H H2 := fun c o h => b c o (a c o h)
theorem Same.free {H H' : Hp} (e : Same H H') {l : Addr} (h : H' l = Option.none) : H l = Option.none := by
  cases q : H l with
  | none => rfl
  | some o =>
    rw [e l o q] at h
    cases h
theorem Same.seq {K : PySem.W.Frag} {H H' : Hp} {a : Addr} {xs : List V} (e : Same H H') (h : SqL K H a xs) : SqL K H' a xs := by
  rcases h with (h | ⟨o, h⟩) | h
  · exact .inl (.inl (e _ _ h))
  · exact .inl (.inr ⟨o, e _ _ h⟩)
  · exact .inr h

section
variable {X : Cx}
end
/-! ### a dict's pairs: keys that differ -/
section
variable {κ : Type} [DecidableEq κ]
end
end L2
set_option Elab.async false
set_option linter.all false
set_option maxRecDepth 100000
set_option maxHeartbeats 4000000
namespace L2
open PySem PySem.Spec PyProof.Rows

/-! ### values by depth: a tuple is its items -/
inductive D where
  | non | bl (b : Bool) | int (i : Int) | str (x : Str) | tup (xs : List D) | ref (a : Addr) | ty (n : String)
abbrev Fg := PySem.W.Frag
mutual
inductive RD (K : Fg) (H : Hp) : D → V → Prop where
  | non : RD K H .non .non
  | bl (b : Bool) : RD K H (.bl b) (.bl b)
  | int (i : Int) : RD K H (.int i) (.int i)
  | str (x : Str) : RD K H (.str x) (.str x)
  | ty (n : String) : RD K H (.ty n) (.ty n)
  | ref (a : Addr) : RD K H (.ref a) (.ref a)
  | tup {a : Addr} {xs : List V} {ds : List D} : SqT K H a xs → RDs K H ds xs → H a = some (.tup xs) → RD K H (.tup ds) (.ref a)
inductive RDs (K : Fg) (H : Hp) : List D → List V → Prop where
  | nil : RDs K H [] []
  | cons {d : D} {v : V} {ds : List D} {vs : List V} : RD K H d v → RDs K H ds vs → RDs K H (d :: ds) (v :: vs)
end
/-- what was a tuple, or frozen, stays so -/
structure Ts (H H' : Hp) : Prop where
  tups : ∀ a xs, H a = some (.tup xs) → H' a = some (.tup xs)
  frzs : ∀ a o u, H a = some (.frz o u) → H' a = some (.frz o u)
theorem Ts.refl (H : Hp) : Ts H H := ⟨fun _ _ h => h, fun _ _ _ h => h⟩
theorem Ts.trans {H H1 H2 : Hp} (a : Ts H H1) (b : Ts H1 H2) : Ts H H2 := ⟨fun c xs h => b.tups c xs (a.tups c xs h), fun c o u h => b.frzs c o u (a.frzs c o u h)⟩
theorem Ts.same {H H' : Hp} (s : Same H H') : Ts H H' := ⟨fun a _ h => s a _ h, fun a _ _ h => s a _ h⟩
theorem Ts.rd {H H' : Hp} (t : Ts H H') {a : Addr} {xs : List V} (h : Rd H a (.tup xs)) : Rd H' a (.tup xs) := by
  rcases h with h | ⟨o, h⟩
  · exact .inl (t.tups _ _ h)
  · exact .inr ⟨o, t.frzs _ _ _ h⟩
theorem Ts.sqT {K : Fg} {H H' : Hp} (t : Ts H H') {a : Addr} {xs : List V} (h : SqT K H a xs) : SqT K H' a xs := h.elim (fun q => .inl (t.rd q)) .inr
theorem same_new {H : Hp} {p : Addr} {o : HO} (h : H p = none) : Same H (upd H p o) := fun b u e => by
  rw [upd_ne (ne_of_none e h)]; exact e
mutual
theorem RD.mono {K : Fg} {H H' : Hp} (t : Ts H H') : ∀ {d : D} {v : V}, RD K H d v → RD K H' d v
  | _, _, .non => .non
  | _, _, .bl b => .bl b
  | _, _, .int i => .int i
  | _, _, .str x => .str x
  | _, _, .ty n => .ty n
  | _, _, .ref a => .ref a
  | _, _, .tup h r e => .tup (t.sqT h) (RDs.mono t r) (t.tups _ _ e)
theorem RDs.mono {K : Fg} {H H' : Hp} (t : Ts H H') : ∀ {ds : List D} {vs : List V}, RDs K H ds vs → RDs K H' ds vs
  | _, _, .nil => .nil
  | _, _, .cons h r => .cons (RD.mono t h) (RDs.mono t r)
end
section
variable {K : Fg} {H : Hp}
theorem RDs.length : ∀ {ds : List D} {vs : List V}, RDs K H ds vs → ds.length = vs.length
  | _, _, .nil => rfl
  | _, _, .cons _ r => congrArg (· + 1) (RDs.length r)
theorem RDs.append : ∀ {ds : List D} {vs : List V} {es : List D} {ws : List V}, RDs K H ds vs → RDs K H es ws → RDs K H (ds ++ es) (vs ++ ws)
  | _, _, _, _, .nil, s => s
  | _, _, _, _, .cons h r, s => .cons h (RDs.append r s)
theorem RDs.get : ∀ {ds : List D} {vs : List V} {i : Nat} {d : D}, RDs K H ds vs → ds[i]? = some d → ∃ v, vs[i]? = some v ∧ RD K H d v
  | _, _, _, _, .nil, e => by simp at e
  | _, _, 0, _, .cons r _, e => by simp at e; subst e; exact ⟨_, rfl, r⟩
  | _, _, i + 1, d, .cons _ t, e => by
    obtain ⟨u, h1, h2⟩ := RDs.get (i := i) (d := d) t (by simpa using e)
    exact ⟨u, by simpa using h1, h2⟩
theorem RDs.getV : ∀ {ds : List D} {vs : List V} {i : Nat} {v : V}, RDs K H ds vs → vs[i]? = some v → ∃ d, ds[i]? = some d ∧ RD K H d v
  | _, _, _, _, .nil, e => by simp at e
  | _, _, 0, _, .cons r _, e => by simp at e; subst e; exact ⟨_, rfl, r⟩
  | _, _, i + 1, d, .cons _ t, e => by
    obtain ⟨u, h1, h2⟩ := RDs.getV (i := i) (v := d) t (by simpa using e)
    exact ⟨u, by simpa using h1, h2⟩
theorem RDs.set {d : D} {v : V} (r : RD K H d v) : ∀ {ds : List D} {vs : List V} (i : Nat), RDs K H ds vs → RDs K H (ds.set i d) (vs.set i v)
  | _, _, _, .nil => .nil
  | _, _, 0, .cons _ t => .cons r t
  | _, _, i + 1, .cons q t => .cons q (RDs.set r i t)
theorem RDs.drop : ∀ {ds : List D} {vs : List V} (n : Nat), RDs K H ds vs → RDs K H (ds.drop n) (vs.drop n)
  | _, _, 0, r => r
  | _, _, _ + 1, .nil => .nil
  | _, _, n + 1, .cons _ t => RDs.drop n t
theorem RDs.take : ∀ {ds : List D} {vs : List V} (n : Nat), RDs K H ds vs → RDs K H (ds.take n) (vs.take n)
  | _, _, 0, _ => .nil
  | _, _, _ + 1, .nil => .nil
  | _, _, n + 1, .cons r t => .cons r (RDs.take n t)
theorem RDs.ints (ns : List Int) : RDs K H (ns.map D.int) (ns.map V.int) := by
  induction ns with
  | nil => exact .nil
  | cons n r ih => exact .cons (.int n) ih
theorem RDs.nil_iff {ds : List D} {vs : List V} (r : RDs K H ds vs) : vs = [] ↔ ds = [] := by
  cases r <;> simp
end

/-! ### what is known of the heap -/
/-- a dict's key: a number or a text, or a tuple of these -/
abbrev DK := Key ⊕ List Key
inductive GO where
  | lst (ds : List D) | rol (ds : List D) | dic (t : Bool) (kvs : List (DK × D)) | ins (C : Addr) (fs : List (Str × D)) | exn (C : Addr)
abbrev Gp := Addr → Option GO
def updG (G : Gp) (a : Addr) (o : GO) : Gp := fun b => if b = a then some o else G b
theorem updG_same {G : Gp} {a : Addr} {o : GO} : updG G a o a = some o := by unfold updG; rw [if_pos rfl]
theorem updG_ne {G : Gp} {a b : Addr} {o : GO} (h : b ≠ a) : updG G a o b = G b := by unfold updG; rw [if_neg h]
theorem updG_old {G : Gp} {a b : Addr} {o u : GO} (h : G b = some u) (n : G a = none) : updG G a o b = some u := by
  rw [updG_ne]; exact h
  intro e; subst e; rw [h] at n; cases n
/-- the second knows all that the first knows -/
def Le (G G' : Gp) : Prop := ∀ a o, G a = some o → G' a = some o
theorem Le.refl (G : Gp) : Le G G := fun _ _ h => h
theorem Le.trans {G G1 G2 : Gp} (a : Le G G1) (b : Le G1 G2) : Le G G2 := fun c o h => b c o (a c o h)
theorem Le.new {G : Gp} {a : Addr} {o : GO} (n : G a = none) : Le G (updG G a o) := fun _ _ h => updG_old h n
theorem Le.free {G G' : Gp} (l : Le G G') {a : Addr} (h : G' a = none) : G a = none := by
  cases q : G a with
  | none => rfl
  | some o => have := l a o q; rw [h] at this; cases this
def kD : Key → D
  | .inl i => .int i
  | .inr x => .str x
inductive Two {α β : Type} (P : α → β → Prop) : List α → List β → Prop where
  | nil : Two P [] []
  | cons {a : α} {b : β} {as : List α} {bs : List β} : P a b → Two P as bs → Two P (a :: as) (b :: bs)
theorem Two.imp {α β : Type} {P Q : α → β → Prop} (f : ∀ a b, P a b → Q a b) : ∀ {as : List α} {bs : List β}, Two P as bs → Two Q as bs
  | _, _, .nil => .nil
  | _, _, .cons h r => .cons (f _ _ h) (Two.imp f r)
theorem Two.length {α β : Type} {P : α → β → Prop} : ∀ {as : List α} {bs : List β}, Two P as bs → as.length = bs.length
  | _, _, .nil => rfl
  | _, _, .cons _ r => congrArg (· + 1) (Two.length r)
/-- an exception of the class at C, at a -/
def ExnAt (C a : Addr) (h : Heap) : Prop := ∃ o vs, h.get? a = some o ∧ o.cls = .ref C ∧ o.data = .fields vs
def OR (K : Fg) (H : Hp) (a : Addr) : GO → Prop
  | .lst ds => ∃ xs, H a = some (.lst xs) ∧ RDs K H ds xs
  | .rol ds => ∃ xs, SqL K H a xs ∧ RDs K H ds xs
  | .dic t kvs => (t = false ∧ ∃ xs : List (Key × V), H a = some (.dK xs) ∧ Two (fun p q => p.1 = .inl q.1 ∧ RD K H p.2 q.2) kvs xs) ∨
      (t = true ∧ ∃ xs : List (List Key × V), H a = some (.dT xs) ∧ Two (fun p q => p.1 = .inr q.1 ∧ RD K H p.2 q.2) kvs xs)
  | .ins C fs => ∃ (dx : Addr) (vs : List (Str × V)), H a = some (.ins C dx vs) ∧ Two (fun p q => p.1 = q.1 ∧ RD K H p.2 q.2) fs vs
  | .exn C => ∃ o vs, H a = some (.frz o (.ext (ExnAt C a))) ∧ o.data = .fields vs ∧ vs[2]? = some .none
def HR (K : Fg) (H : Hp) (G : Gp) : Prop := ∀ a o, G a = some o → OR K H a o
theorem OR.keep {K : Fg} {H H' : Hp} {a : Addr} {o : GO} (t : Ts H H') (h : OR K H a o) (k : ∀ u, H a = some u → H' a = some u) : OR K H' a o := by
  cases o with
  | lst ds => obtain ⟨xs, e, r⟩ := h; exact ⟨xs, k _ e, r.mono t⟩
  | rol ds =>
    obtain ⟨xs, e, r⟩ := h
    refine ⟨xs, ?_, r.mono t⟩
    rcases e with (e | ⟨o, e⟩) | e
    · exact .inl (.inl (k _ e))
    · exact .inl (.inr ⟨o, k _ e⟩)
    · exact .inr e
  | dic b kvs =>
    rcases h with ⟨z, xs, e, r⟩ | ⟨z, xs, e, r⟩
    · exact .inl ⟨z, xs, k _ e, r.imp fun _ _ q => ⟨q.1, q.2.mono t⟩⟩
    · exact .inr ⟨z, xs, k _ e, r.imp fun _ _ q => ⟨q.1, q.2.mono t⟩⟩
  | ins C fs => obtain ⟨dx, vs, e, r⟩ := h; exact ⟨dx, vs, k _ e, r.imp fun _ _ q => ⟨q.1, q.2.mono t⟩⟩
  | exn C => obtain ⟨o, vs, e, r⟩ := h; exact ⟨o, vs, k _ e, r⟩
theorem HR.same {K : Fg} {H H' : Hp} {G : Gp} (h : HR K H G) (s : Same H H') : HR K H' G := fun a o e => (h a o e).keep (.same s) fun u q => s a u q
theorem HR.le {K : Fg} {H : Hp} {G G' : Gp} (h : HR K H G') (l : Le G G') : HR K H G := fun a o e => h a o (l a o e)
/-- what is new to the tracked heap is new to what is known, but for objects of the module -/
theorem HR.put {K : Fg} {H : Hp} {G : Gp} {p : Addr} {o : HO} {u : GO} (h : HR K H G) (n : H p = none) (new : OR K (upd H p o) p u) : HR K (upd H p o) (updG G p u) := fun a v e => by
  by_cases q : a = p
  · subst q; rw [updG_same] at e; cases e; exact new
  · rw [updG_ne q] at e
    exact (h a v e).keep (.same (same_new n)) fun w z => same_new n a w z
/-- an object that may turn is turned -/
theorem HR.turn {K : Fg} {H : Hp} {G : Gp} {p : Addr} {o : HO} {u : GO} (h : HR K H G) (t : Ts H (upd H p o)) (new : OR K (upd H p o) p u) : HR K (upd H p o) (updG G p u) := fun a v e => by
  by_cases q : a = p
  · subst q; rw [updG_same] at e; cases e; exact new
  · rw [updG_ne q] at e
    exact (h a v e).keep t fun w z => by rw [upd_ne q]; exact z
theorem Ts.turn {H : Hp} {p : Addr} {o u : HO} (e : H p = some u) (h1 : ∀ xs, u ≠ .tup xs) (h2 : ∀ ob w, u ≠ .frz ob w) : Ts H (upd H p o) := by
  refine ⟨fun a xs q => ?_, fun a ob w q => ?_⟩
  · rw [upd_ne]; exact q
    intro z; subst z; rw [e] at q; exact h1 xs (Option.some.inj q)
  · rw [upd_ne]; exact q
    intro z; subst z; rw [e] at q; exact h2 ob w (Option.some.inj q)

/-! ### states -/
abbrev St3 := List (Option D)
abbrev VK3 := D → Gp → Prop
abbrev TE3 := St3 → Gp → VK3 → Prop
abbrev TT3 := St3 → Gp → (Bool → Gp → Prop) → Prop
abbrev TA3 := St3 → Gp → (List D → Gp → Prop) → Prop
def at3 : St3 → Nat → Option D
  | [], _ => none
  | x :: _, 0 => x
  | _ :: r, n + 1 => at3 r n
def set3 : St3 → Nat → D → St3
  | [], _, _ => []
  | _ :: r, 0, d => some d :: r
  | x :: r, n + 1, d => x :: set3 r n d
inductive SR (K : Fg) (H : Hp) : St3 → St → Prop where
  | nil : SR K H [] []
  | none {ρ : St3} {σ : St} {v : Option V} : SR K H ρ σ → SR K H (Option.none :: ρ) (v :: σ)
  | some {ρ : St3} {σ : St} {d : D} {v : V} : RD K H d v → SR K H ρ σ → SR K H (Option.some d :: ρ) (Option.some v :: σ)
theorem SR.mono {K : Fg} {H H' : Hp} (t : Ts H H') : ∀ {ρ : St3} {σ : St}, SR K H ρ σ → SR K H' ρ σ
  | _, _, .nil => .nil
  | _, _, .none r => .none (SR.mono t r)
  | _, _, .some h r => .some (h.mono t) (SR.mono t r)
theorem SR.get {K : Fg} {H : Hp} : ∀ {ρ : St3} {σ : St} {i : Nat} {d : D}, SR K H ρ σ → at3 ρ i = Option.some d → ∃ v, σ[i]? = Option.some (Option.some v) ∧ RD K H d v
  | _, _, _, _, .nil, e => by simp [at3] at e
  | _, _, 0, _, .none _, e => by simp [at3] at e
  | _, _, 0, _, .some h _, e => by simp [at3] at e; subst e; exact ⟨_, rfl, h⟩
  | _, _, i + 1, _, .none r, e => by
    obtain ⟨v, h1, h2⟩ := SR.get (i := i) r (by simpa [at3] using e)
    exact ⟨v, by simpa using h1, h2⟩
  | _, _, i + 1, _, .some _ r, e => by
    obtain ⟨v, h1, h2⟩ := SR.get (i := i) r (by simpa [at3] using e)
    exact ⟨v, by simpa using h1, h2⟩
theorem SR.set {K : Fg} {H : Hp} {d : D} {v : V} (q : RD K H d v) : ∀ {ρ : St3} {σ : St} (i : Nat), SR K H ρ σ → SR K H (set3 ρ i d) (σ.set i (Option.some v))
  | _, _, _, .nil => .nil
  | _, _, 0, .none r => .some q r
  | _, _, 0, .some _ r => .some q r
  | _, _, i + 1, .none r => .none (SR.set q i r)
  | _, _, i + 1, .some h r => .some h (SR.set q i r)
theorem SR.len {K : Fg} {H : Hp} : ∀ {ρ : St3} {σ : St}, SR K H ρ σ → ρ.length = σ.length
  | _, _, .nil => rfl
  | _, _, .none r => congrArg (· + 1) (SR.len r)
  | _, _, .some _ r => congrArg (· + 1) (SR.len r)
/-- a frame's names at its entry -/
def start3 (n : Nat) (ds : List D) : St3 := ds.map Option.some ++ List.replicate (n - ds.length) Option.none
theorem SR.nones {K : Fg} {H : Hp} : ∀ n : Nat, SR K H (List.replicate n Option.none) (List.replicate n Option.none)
  | 0 => .nil
  | n + 1 => .none (SR.nones n)
theorem SR.entry {K : Fg} {H : Hp} {k : Nat} : ∀ {ds : List D} {vs : List V}, RDs K H ds vs → SR K H (ds.map Option.some ++ List.replicate k Option.none) (vs.map Option.some ++ List.replicate k Option.none)
  | _, _, .nil => SR.nones k
  | _, _, .cons h r => .some h (SR.entry r)

/-! ### the lifts -/
def upE (K : Fg) (t : TE3) : TE := fun σ H Q => ∃ ρ G R, SR K H ρ σ ∧ HR K H G ∧ t ρ G R ∧ ∀ v H' d G', Ts H H' → RD K H' d v → HR K H' G' → R d G' → Q v H'
def upT (K : Fg) (t : TT3) : TT := fun σ H Q => ∃ ρ G R, SR K H ρ σ ∧ HR K H G ∧ t ρ G R ∧ ∀ b H' G', Ts H H' → HR K H' G' → R b G' → Q b H'
def upA (K : Fg) (t : TA3) : TA := fun σ H Q => ∃ ρ G R, SR K H ρ σ ∧ HR K H G ∧ t ρ G R ∧ ∀ vs H' ds G', Ts H H' → RDs K H' ds vs → HR K H' G' → R ds G' → Q vs H'
abbrev PE3 (X : Cx) (e : Expr) (t : TE3) : Prop := PE X e (upE X.K t)
abbrev PT3 (X : Cx) (e : Expr) (t : TT3) : Prop := PT X e (upT X.K t)
abbrev PW3 (X : Cx) (e : Expr) (t : TT3) : Prop := PW X e (upT X.K t)
abbrev PA3 (X : Cx) (es : List Expr) (t : TA3) : Prop := PA X es (upA X.K t)
structure Ends3 where
  nx : St3 → Gp → Prop
  rt : VK3
  bk : St3 → Gp → Prop := fun _ _ => False
  ct : St3 → Gp → Prop := fun _ _ => False
abbrev TS3 := Ends3 → St3 → Gp → Prop
structure UpD (K : Fg) (E : Ends3) (F : Ends) : Prop where
  nx : ∀ ρ G σ H', SR K H' ρ σ → HR K H' G → E.nx ρ G → F.nx σ H'
  rt : ∀ d G v H', RD K H' d v → HR K H' G → E.rt d G → F.rt v H'
  bk : ∀ ρ G σ H', SR K H' ρ σ → HR K H' G → E.bk ρ G → F.bk σ H'
  ct : ∀ ρ G σ H', SR K H' ρ σ → HR K H' G → E.ct ρ G → F.ct σ H'
def upS (K : Fg) (t : TS3) : TS := fun F σ H => ∃ ρ G E, SR K H ρ σ ∧ HR K H G ∧ t E ρ G ∧ UpD K E F
abbrev PS3 (X : Cx) (st : Stmt) (t : TS3) : Prop := PS X st (upS X.K t)
abbrev PSs3 (X : Cx) (st : List Stmt) (t : TS3) : Prop := PSs X st (upS X.K t)
section
variable {X : Cx}
theorem PE.imp {e : Expr} {t t' : TE} (h : PE X e t) (k : ∀ σ H Q, t' σ H Q → t σ H Q) : PE X e t' := fun pins s σ H Q I q => h pins s σ H Q I (k _ _ _ q)
theorem PT.imp {e : Expr} {t t' : TT} (h : PT X e t) (k : ∀ σ H Q, t' σ H Q → t σ H Q) : PT X e t' := fun pins s σ H Q I q => h pins s σ H Q I (k _ _ _ q)
theorem PW.imp {e : Expr} {t t' : TT} (h : PW X e t) (k : ∀ σ H Q, t' σ H Q → t σ H Q) : PW X e t' := fun wh pins s σ H Q I q => h wh pins s σ H Q I (k _ _ _ q)
theorem PA.imp {e : List Expr} {t t' : TA} (h : PA X e t) (k : ∀ σ H Q, t' σ H Q → t σ H Q) : PA X e t' := fun p pins s σ H Q I q => h p pins s σ H Q I (k _ _ _ q)
theorem PS.imp {e : Stmt} {t t' : TS} (h : PS X e t) (k : ∀ F σ H, t' F σ H → t F σ H) : PS X e t' := fun pins s σ H F I q => h pins s σ H F I (k _ _ _ q)
/-- an object of the module is not tracked -/
def KF (K : Fg) (H : Hp) : Prop := ∀ b o, K.lookup b = some o → H b = none
theorem kf_of {pins : List (Addr × Obj)} {σ : St} {H : Hp} {s : Shared} (I : Inv X pins σ H s) : KF X.K H := fun b o e => (I.bs b o (I.ok.mod.kin b o e)).2
theorem PE.kf {e : Expr} {t : TE} (h : PE X e t) : PE X e (fun σ H Q => t σ H fun v H' => KF X.K H' → Q v H') := fun pins s σ H Q I q =>
  thn (h pins s σ H _ I q) fun _ _ ⟨v, H', I', r, q'⟩ => ⟨v, H', I', r, q' (kf_of I')⟩
theorem PSs.imp {e : List Stmt} {t t' : TS} (h : PSs X e t) (k : ∀ F σ H, t' F σ H → t F σ H) : PSs X e t' := fun pins s σ H F I q => h pins s σ H F I (k _ _ _ q)
end

theorem fresh3 {K : Fg} {H : Hp} {G : Gp} {p : Addr} {o : HO} (g : HR K H G) (n : H p = none) (k : KF K (upd H p o)) : G p = none := by
  have kn : K.lookup p = none := by
    cases q : K.lookup p with
    | none => rfl
    | some u => have := k p u q; rw [upd_same] at this; cases this
  cases q : G p with
  | none => rfl
  | some u =>
    have z := g p u q
    cases u with
    | lst ds => obtain ⟨xs, e, _⟩ := z; rw [n] at e; cases e
    | rol ds =>
      obtain ⟨xs, e, _⟩ := z
      rcases e with (e | ⟨o, e⟩) | ⟨o, _, _, e, _⟩
      · rw [n] at e; cases e
      · rw [n] at e; cases e
      · rw [kn] at e; cases e
    | dic tt kvs =>
      rcases z with ⟨_, xs, e, _⟩ | ⟨_, xs, e, _⟩
      · rw [n] at e; cases e
      · rw [n] at e; cases e
    | ins C fs => obtain ⟨dx, vs, e, _⟩ := z; rw [n] at e; cases e
    | exn C => obtain ⟨o, vs, e, _⟩ := z; rw [n] at e; cases e

/-! ### names, constants -/
section
variable {X : Cx} {a b c : Expr} {ta tb tc : TE3} {pos : Pos}
def tVar3 (i : Nat) : TE3 := fun ρ G R => match at3 ρ i with
  | some d => R d G
  | none => False
def tC3 (d : D) : TE3 := fun _ G R => R d G
theorem up_var {K : Fg} {i : Nat} {σ : St} {H : Hp} {Q : VK} (h : upE K (tVar3 i) σ H Q) : tVar i σ H Q := by
  obtain ⟨ρ, G, R, s, g, t, k⟩ := h
  unfold tVar3 at t
  split at t
  · rename_i d e
    obtain ⟨v, h1, h2⟩ := s.get e
    exact ⟨v, h1, k v H d G (.refl H) h2 g t⟩
  · exact t.elim
theorem up_c {K : Fg} {d : D} {v : V} (r : ∀ H, RD K H d v) {σ : St} {H : Hp} {Q : VK} (h : upE K (tC3 d) σ H Q) : tC v σ H Q := by
  obtain ⟨ρ, G, R, s, g, t, k⟩ := h
  exact k v H d G (.refl H) (r H) g t
theorem p_var (i : Nat) {x : Str} {pos : Pos} (hN : X.N[i]? = some x := by rfl) (hv : Vis X.env.scope x := by first | exact Or.inl rfl | exact Or.inr (Or.inl rfl) | exact Or.inr (Or.inr rfl)) (hd : (x == ("__debug__" : Str)) = false := by decide)
    (hcd : (x == ("__classdict__" : Str)) = false := by decide) : PE3 X (.Name x pos) (tVar3 i) := PE.imp (pe_var hN hv hd hcd) fun _ _ _ h => up_var h
theorem p_int {i j pos} : PE3 X (.Constant (.int i) j pos) (tC3 (.int i)) := PE.imp pe_int fun _ _ _ h => up_c (fun _ => .int i) h
theorem p_bl {b j pos} : PE3 X (.Constant (.bool b) j pos) (tC3 (.bl b)) := PE.imp pe_bl fun _ _ _ h => up_c (fun _ => .bl b) h
theorem p_non {j pos} : PE3 X (.Constant .none j pos) (tC3 .non) := PE.imp pe_non fun _ _ _ h => up_c (fun _ => .non) h
theorem p_str {x j pos} : PE3 X (.Constant (.str x) j pos) (tC3 (.str x)) := PE.imp pe_str fun _ _ _ h => up_c (fun _ => .str x) h
theorem p_glob {x : Str} {d : D} {v : V} {u : Value} {pos : Pos} (hg : Gl X x) (hm : X.mg x = some u) (r : RelV v u) (rd : ∀ H, RD X.K H d v) (hd : (x == ("__debug__" : Str)) = false := by decide) : PE3 X (.Name x pos) (tC3 d) :=
  PE.imp (pe_glob hg hm r hd) fun _ _ _ h => up_c rd h
theorem p_bltn {x : Str} {n : String} {pos : Pos} (hg : Gl X x) (hm : X.mg x = none) (hv : bootBuiltins x = some (.type n)) (hn : x ≠ "__name__" := by decide) (hd : (x == ("__debug__" : Str)) = false := by decide) : PE3 X (.Name x pos) (tC3 (.ty n)) :=
  PE.imp (pe_bltn hg hm hv (v := .ty n) rfl hn hd) fun _ _ _ h => up_c (fun _ => .ty n) h

/-! ### two-place operations -/
abbrev R3 := D → D → Gp → VK3 → Prop
def OpI (K : Fg) (r : R2) (r3 : R3) : Prop := ∀ (H : Hp) (x y : D) (vx vy : V) (G : Gp) (R : VK3) (Q : VK), RD K H x vx → RD K H y vy → HR K H G → r3 x y G R → (∀ v H' d G', Ts H H' → RD K H' d v → HR K H' G' → R d G' → Q v H') → r vx vy H fun v H' => KF K H' → Q v H'
def OpR3 (X : Cx) (f : Value → Value → Sem Value) (r3 : R3) : Prop := ∃ r, OpR X f r ∧ OpI X.K r r3
/-- a comparison: nothing is made -/
def OpC (K : Fg) (r : R2) (r3 : R3) : Prop := ∀ (H : Hp) (x y : D) (vx vy : V) (G : Gp) (R : VK3) (Q : VK), RD K H x vx → RD K H y vy → HR K H G → r3 x y G R → (∀ v H' d G', Ts H H' → RD K H' d v → HR K H' G' → R d G' → Q v H') → r vx vy H Q
def OpC3 (X : Cx) (f : Value → Value → Sem Value) (r3 : R3) : Prop := ∃ r, OpR X f r ∧ OpC X.K r r3
def tOp3 (r : R3) (ta tb : TE3) : TE3 := fun ρ G R => ta ρ G fun x G1 => tb ρ G1 fun y G2 => r x y G2 R
theorem up_op {K : Fg} {r : R2} {r3 : R3} (o : OpI K r r3) {σ : St} {H : Hp} {Q : VK} (h : upE K (tOp3 r3 ta tb) σ H Q) : tOp r (upE K ta) (upE K tb) σ H fun v H' => KF K H' → Q v H' := by
  obtain ⟨ρ, G, R, s, g, t, k⟩ := h
  refine ⟨ρ, G, _, s, g, t, fun vx H1 x G1 t1 rx g1 t' => ?_⟩
  refine ⟨ρ, G1, _, s.mono t1, g1, t', fun vy H2 y G2 t2 ry g2 t'' => ?_⟩
  exact o H2 x y vx vy G2 R Q (rx.mono t2) ry g2 t'' fun v H' d G' t3 => k v H' d G' ((t1.trans t2).trans t3)
theorem up_cmp {K : Fg} {r : R2} {r3 : R3} (o : OpC K r r3) {σ : St} {H : Hp} {Q : VK} (h : upE K (tOp3 r3 ta tb) σ H Q) : tOp r (upE K ta) (upE K tb) σ H Q := by
  obtain ⟨ρ, G, R, s, g, t, k⟩ := h
  refine ⟨ρ, G, _, s, g, t, fun vx H1 x G1 t1 rx g1 t' => ?_⟩
  refine ⟨ρ, G1, _, s.mono t1, g1, t', fun vy H2 y G2 t2 ry g2 t'' => ?_⟩
  exact o H2 x y vx vy G2 R Q (rx.mono t2) ry g2 t'' fun v H' d G' t3 => k v H' d G' ((t1.trans t2).trans t3)
theorem p_op {op : Operator} {r3 : R3} (o : OpR3 X (binaryOp op) r3) (ha : PE3 X a ta) (hb : PE3 X b tb) : PE3 X (.BinOp a op b pos) (tOp3 r3 ta tb) := by
  obtain ⟨r, o1, o2⟩ := o
  exact PE.imp (PE.kf (pe_op o1 ha hb)) fun _ _ _ h => up_op o2 h
theorem p_cmp {op : CmpOp} {r3 : R3} (o : OpC3 X (compareOp op) r3) (ha : PE3 X a ta) (hb : PE3 X b tb) (hm : behindInMarks op b = false) : PE3 X (.Compare a [op] [b] pos) (tOp3 r3 ta tb) := by
  obtain ⟨r, o1, o2⟩ := o
  exact PE.imp (pe_cmpR o1 ha hb hm) fun _ _ _ h => up_cmp o2 h
def tTest3 (t : TE3) : TT3 := fun ρ G R => t ρ G fun x G1 => match x with
  | .bl k => R k G1
  | _ => False
theorem up_test {K : Fg} {t : TE} {t3 : TE3} (f : ∀ σ H Q, upE K t3 σ H Q → t σ H Q) {σ : St} {H : Hp} {Q : Bool → Hp → Prop} (h : upT K (tTest3 t3) σ H Q) : tTest t σ H Q := by
  obtain ⟨ρ, G, R, s, g, u, k⟩ := h
  refine f _ _ _ ⟨ρ, G, _, s, g, u, fun v H' d G' t1 r g1 q => ?_⟩
  cases r with
  | bl b => exact ⟨b, rfl, k b H' G' t1 g1 q⟩
  | _ => exact q.elim
theorem q_cmp {op : CmpOp} {r3 : R3} (o : OpC3 X (compareOp op) r3) (ha : PE3 X a ta) (hb : PE3 X b tb) (hm : behindInMarks op b = false) : PT3 X (.Compare a [op] [b] pos) (tTest3 (tOp3 r3 ta tb)) := by
  obtain ⟨r, o1, o2⟩ := o
  exact PT.imp (pt_cmpR o1 ha hb hm) fun _ _ _ h => up_test (fun _ _ _ => up_cmp o2) h
/-- an expression whose value is a bool, as a test -/
theorem q_val {e : Expr} {t : TE3} (h : PE3 X e t) (he : ∀ whole, isTrue e X.env whole = (do let v ← whole; standAt e.pos; holding [v] (truthy v)) := by intro _; rfl) : PT3 X e (tTest3 t) :=
  PT.imp (pt_val h he) fun _ _ _ h => up_test (fun _ _ _ q => q) h
def tChain3 (r r' : R3) (ta tb tc : TE3) : TE3 := fun ρ G R => ta ρ G fun x G1 => tb ρ G1 fun y G2 => r x y G2 fun z G3 => match z with
  | .bl true => tc ρ G3 fun w G4 => r' y w G4 R
  | .bl false => R (.bl false) G3
  | _ => False
theorem up_chain {K : Fg} {r r' : R2} {r3 r3' : R3} (o : OpC K r r3) (o' : OpC K r' r3') {σ : St} {H : Hp} {Q : VK} (h : upE K (tChain3 r3 r3' ta tb tc) σ H Q) : tChain r r' (upE K ta) (upE K tb) (upE K tc) σ H Q := by
  obtain ⟨ρ, G, R, s, g, t, k⟩ := h
  refine ⟨ρ, G, _, s, g, t, fun vx H1 x G1 t1 rx g1 t' => ?_⟩
  refine ⟨ρ, G1, _, s.mono t1, g1, t', fun vy H2 y G2 t2 ry g2 t'' => ?_⟩
  refine o H2 x y vx vy G2 _ _ (rx.mono t2) ry g2 t'' fun v H3 d G3 t3 rd g3 q => ?_
  cases rd with
  | bl b =>
    refine ⟨b, rfl, ?_⟩
    cases b with
    | true =>
      rw [if_pos rfl]
      refine ⟨ρ, G3, _, s.mono ((t1.trans t2).trans t3), g3, q, fun vw H4 w G4 t4 rw' g4 q' => ?_⟩
      exact o' H4 y w vy vw G4 R Q (ry.mono (t3.trans t4)) rw' g4 q' fun v H' d G' t5 => k v H' d G' (((t1.trans t2).trans t3).trans (t4.trans t5))
    | false =>
      rw [if_neg Bool.false_ne_true]
      exact k _ H3 _ G3 ((t1.trans t2).trans t3) (.bl false) g3 q
  | _ => exact q.elim
theorem p_chain {op op' : CmpOp} {r3 r3' : R3} (o : OpC3 X (compareOp op) r3) (o' : OpC3 X (compareOp op') r3') (ha : PE3 X a ta) (hb : PE3 X b tb) (hc : PE3 X c tc)
    (hm : lastMarks [op, op'] [b, c] = false := by with_unfolding_all rfl) : PE3 X (.Compare a [op, op'] [b, c] pos) (tChain3 r3 r3' ta tb tc) := by
  obtain ⟨r, o1, o2⟩ := o
  obtain ⟨r', o1', o2'⟩ := o'
  exact PE.imp (pe_chain o1 o1' ha hb hc hm) fun _ _ _ h => up_chain o2 o2' h
theorem q_chain {op op' : CmpOp} {r3 r3' : R3} (o : OpC3 X (compareOp op) r3) (o' : OpC3 X (compareOp op') r3') (ha : PE3 X a ta) (hb : PE3 X b tb) (hc : PE3 X c tc)
    (hm : lastMarks [op, op'] [b, c] = false := by with_unfolding_all rfl) : PT3 X (.Compare a [op, op'] [b, c] pos) (tTest3 (tChain3 r3 r3' ta tb tc)) := by
  obtain ⟨r, o1, o2⟩ := o
  obtain ⟨r', o1', o2'⟩ := o'
  exact PT.imp (pt_chain o1 o1' ha hb hc hm) fun _ _ _ h => up_test (fun _ _ _ => up_chain o2 o2') h

/-! ### and, or, not, if-else -/
variable {sa sb : TT3} {rest : List Expr}
def tAnd3 (t u : TT3) : TT3 := fun ρ G R => t ρ G fun c G1 => if c = true then u ρ G1 R else R false G1
def tOr3 (t u : TT3) : TT3 := fun ρ G R => t ρ G fun c G1 => if c = true then R true G1 else u ρ G1 R
def tNot3 (t : TT3) : TT3 := fun ρ G R => t ρ G fun c G1 => R (!c) G1
theorem up_and {K : Fg} {σ : St} {H : Hp} {Q : Bool → Hp → Prop} (h : upT K (tAnd3 sa sb) σ H Q) : tAnd (upT K sa) (upT K sb) σ H Q := by
  obtain ⟨ρ, G, R, s, g, t, k⟩ := h
  refine ⟨ρ, G, _, s, g, t, fun c H1 G1 t1 g1 q => ?_⟩
  cases c with
  | true => exact ⟨ρ, G1, R, s.mono t1, g1, q, fun b H' G' t2 => k b H' G' (t1.trans t2)⟩
  | false => exact k false H1 G1 t1 g1 q
theorem up_or {K : Fg} {σ : St} {H : Hp} {Q : Bool → Hp → Prop} (h : upT K (tOr3 sa sb) σ H Q) : tOr (upT K sa) (upT K sb) σ H Q := by
  obtain ⟨ρ, G, R, s, g, t, k⟩ := h
  refine ⟨ρ, G, _, s, g, t, fun c H1 G1 t1 g1 q => ?_⟩
  cases c with
  | false => exact ⟨ρ, G1, R, s.mono t1, g1, q, fun b H' G' t2 => k b H' G' (t1.trans t2)⟩
  | true => exact k true H1 G1 t1 g1 q
theorem q_and1 (ha : PT3 X a sa) : PW3 X (.BoolOp .And [a] pos) sa := pw_and1 ha
theorem q_or1 (ha : PT3 X a sa) : PW3 X (.BoolOp .Or [a] pos) sa := pw_or1 ha
theorem q_and (ha : PT3 X a sa) (hb : PW3 X (.BoolOp .And (b :: rest) pos) sb) : PW3 X (.BoolOp .And (a :: b :: rest) pos) (tAnd3 sa sb) := PW.imp (pw_and ha hb) fun _ _ _ h => up_and h
theorem q_or (ha : PT3 X a sa) (hb : PW3 X (.BoolOp .Or (b :: rest) pos) sb) : PW3 X (.BoolOp .Or (a :: b :: rest) pos) (tOr3 sa sb) := PW.imp (pw_or ha hb) fun _ _ _ h => up_or h
theorem q_not (ha : PT3 X a sa) : PT3 X (.UnaryOp .Not a pos) (tNot3 sa) := PT.imp (pt_not ha) fun σ H Q h => by
  obtain ⟨ρ, G, R, s, g, t, k⟩ := h
  exact ⟨ρ, G, _, s, g, t, fun c H1 G1 t1 g1 q => k (!c) H1 G1 t1 g1 q⟩
def tAndV3 (ta tb : TE3) : TE3 := fun ρ G R => ta ρ G fun x G1 => match x with
  | .bl true => tb ρ G1 R
  | .bl false => R (.bl false) G1
  | _ => False
def tOrV3 (ta tb : TE3) : TE3 := fun ρ G R => ta ρ G fun x G1 => match x with
  | .bl true => R (.bl true) G1
  | .bl false => tb ρ G1 R
  | _ => False
def tNotV3 (ta : TE3) : TE3 := fun ρ G R => ta ρ G fun x G1 => match x with
  | .bl c => R (.bl (!c)) G1
  | _ => False
theorem p_one {op} (h : PE3 X a ta) : PE3 X (.BoolOp op [a] pos) ta := pe_one h
theorem p_and (ha : PE3 X a ta) (hb : PE3 X (.BoolOp .And (b :: rest) pos) tb) : PE3 X (.BoolOp .And (a :: b :: rest) pos) (tAndV3 ta tb) := PE.imp (pe_and ha hb) fun σ H Q h => by
  obtain ⟨ρ, G, R, s, g, t, k⟩ := h
  refine ⟨ρ, G, _, s, g, t, fun v H1 x G1 t1 r g1 q => ?_⟩
  cases r with
  | bl c =>
    refine ⟨c, rfl, ?_⟩
    cases c with
    | true => exact ⟨ρ, G1, R, s.mono t1, g1, q, fun b H' d G' t2 => k b H' d G' (t1.trans t2)⟩
    | false => exact k _ H1 _ G1 t1 (.bl false) g1 q
  | _ => exact q.elim
theorem p_or (ha : PE3 X a ta) (hb : PE3 X (.BoolOp .Or (b :: rest) pos) tb) : PE3 X (.BoolOp .Or (a :: b :: rest) pos) (tOrV3 ta tb) := PE.imp (pe_or ha hb) fun σ H Q h => by
  obtain ⟨ρ, G, R, s, g, t, k⟩ := h
  refine ⟨ρ, G, _, s, g, t, fun v H1 x G1 t1 r g1 q => ?_⟩
  cases r with
  | bl c =>
    refine ⟨c, rfl, ?_⟩
    cases c with
    | false => exact ⟨ρ, G1, R, s.mono t1, g1, q, fun b H' d G' t2 => k b H' d G' (t1.trans t2)⟩
    | true => exact k _ H1 _ G1 t1 (.bl true) g1 q
  | _ => exact q.elim
theorem p_not (ha : PE3 X a ta) : PE3 X (.UnaryOp .Not a pos) (tNotV3 ta) := PE.imp (pe_not ha) fun σ H Q h => by
  obtain ⟨ρ, G, R, s, g, t, k⟩ := h
  refine ⟨ρ, G, _, s, g, t, fun v H1 x G1 t1 r g1 q => ?_⟩
  cases r with
  | bl c => exact ⟨c, rfl, k _ H1 _ G1 t1 (.bl _) g1 q⟩
  | _ => exact q.elim
def tIf3 (t : TT3) (ta tb : TE3) : TE3 := fun ρ G R => t ρ G fun c G1 => if c = true then ta ρ G1 R else tb ρ G1 R
end

/-! ### argument lists, displays -/
section
variable {X : Cx} {e : Expr} {es : List Expr} {te : TE3} {t : TA3} {pos : Pos}
def tNil3 : TA3 := fun _ G R => R [] G
def tCons3 (ta : TE3) (tr : TA3) : TA3 := fun ρ G R => ta ρ G fun x G1 => tr ρ G1 fun xs G2 => R (x :: xs) G2
theorem a_nil : PA3 X [] tNil3 := PA.imp pa_nil fun σ H Q h => by
  obtain ⟨ρ, G, R, s, g, t, k⟩ := h
  exact k [] H [] G (.refl H) .nil g t
theorem a_cons (ha : PE3 X e te) (hr : PA3 X es t) (hs : starEach (e :: es) X.env = (false, eval e X.env) :: starEach es X.env := by rfl) : PA3 X (e :: es) (tCons3 te t) := PA.imp (pa_cons ha hr hs) fun σ H Q h => by
  obtain ⟨ρ, G, R, s, g, t, k⟩ := h
  refine ⟨ρ, G, _, s, g, t, fun v H1 x G1 t1 r g1 q => ?_⟩
  refine ⟨ρ, G1, _, s.mono t1, g1, q, fun vs H2 xs G2 t2 rs g2 q' => ?_⟩
  exact k (v :: vs) H2 (x :: xs) G2 (t1.trans t2) (.cons (r.mono t2) rs) g2 q'
def tTup3 (t : TA3) : TE3 := fun ρ G R => t ρ G fun xs G1 => xs.length ≤ sizeLine ∧ R (.tup xs) G1
def tLst3 (t : TA3) : TE3 := fun ρ G R => t ρ G fun xs G1 => xs.length ≤ sizeLine ∧ ∀ p, G1 p = none → R (.ref p) (updG G1 p (.lst xs))
theorem p_tup {x1} (h : PA3 X es t) : PE3 X (.Tuple es x1 pos) (tTup3 t) := PE.imp (pe_tup h) fun σ H Q h => by
  obtain ⟨ρ, G, R, s, g, t, k⟩ := h
  refine ⟨ρ, G, _, s, g, t, fun vs H1 xs G1 t1 r g1 q => ?_⟩
  refine ⟨by rw [← r.length]; exact q.1, fun p hp => ?_⟩
  have sn : Same H1 (upd H1 p (.tup vs)) := same_new hp
  exact k (.ref p) _ (.tup xs) G1 (t1.trans (.same sn)) (.tup (SqT.of upd_same) (r.mono (.same sn)) upd_same) (g1.same sn) q.2
theorem p_lst (h : PA3 X es t) : PE3 X (.List es pos) (tLst3 t) := PE.imp (PE.kf (pe_lst h)) fun σ H Q h => by
  obtain ⟨ρ, G, R, s, g, t, k⟩ := h
  refine ⟨ρ, G, _, s, g, t, fun vs H1 xs G1 t1 r g1 q => ?_⟩
  refine ⟨by rw [← r.length]; exact q.1, fun p hp kf => ?_⟩
  have sn : Same H1 (upd H1 p (.lst vs)) := same_new hp
  exact k (.ref p) _ (.ref p) _ (t1.trans (.same sn)) (.ref p) (g1.put (u := .lst xs) hp ⟨vs, upd_same, r.mono (.same sn)⟩) (q.2 p (fresh3 g1 hp kf))
end
end L2
set_option Elab.async false
set_option linter.all false
set_option maxRecDepth 100000
set_option maxHeartbeats 4000000
namespace L2
open PySem PySem.Spec PyProof.Rows
section
variable {X : Cx} {a b c : Expr} {ta tb tc : TE3} {pos : Pos}
/-! ### ints -/
def rI3 (C : Int → Int → Prop) (g : Int → Int → Int) : R3 := fun x y G R => match x, y with
  | .int i, .int j => C i j ∧ R (.int (g i j)) G
  | _, _ => False
def rI03 (g : Int → Int → Int) : R3 := fun x y G R => match x, y with
  | .int i, .int j => R (.int (g i j)) G
  | _, _ => False
def rB03 (g : Int → Int → Bool) : R3 := fun x y G R => match x, y with
  | .int i, .int j => R (.bl (g i j)) G
  | _, _ => False
theorem o_int {f : Value → Value → Sem Value} {C : Int → Int → Prop} {g : Int → Int → Int} (h : OpR X f (rI C fun i j => .int (g i j))) : OpR3 X f (rI3 C g) := by
  refine ⟨_, h, fun H x y vx vy G R Q rx ry gh h k => ?_⟩
  cases rx with
  | int i =>
    cases ry with
    | int j => exact ⟨i, j, rfl, rfl, h.1, fun _ => k _ H _ G (.refl H) (.int _) gh h.2⟩
    | _ => exact False.elim h
  | _ => exact False.elim h
theorem o_int0 {f : Value → Value → Sem Value} {g : Int → Int → Int} (h : OpR X f (rI0 fun i j => .int (g i j))) : OpR3 X f (rI03 g) := by
  refine ⟨_, h, fun H x y vx vy G R Q rx ry gh h k => ?_⟩
  cases rx with
  | int i =>
    cases ry with
    | int j => exact ⟨i, j, rfl, rfl, fun _ => k _ H _ G (.refl H) (.int _) gh h⟩
    | _ => exact False.elim h
  | _ => exact False.elim h
theorem o_cmp0 {f : Value → Value → Sem Value} {g : Int → Int → Bool} (h : OpR X f (rI0 fun i j => .bl (g i j))) : OpC3 X f (rB03 g) := by
  refine ⟨_, h, fun H x y vx vy G R Q rx ry gh h k => ?_⟩
  cases rx with
  | int i =>
    cases ry with
    | int j => exact ⟨i, j, rfl, rfl, k _ H _ G (.refl H) (.bl _) gh h⟩
    | _ => exact False.elim h
  | _ => exact False.elim h
def rSub3 : R3 := rI03 fun i j => i - j
def rMul3 : R3 := rI3 CMul fun i j => i * j
def rFdiv3 : R3 := rI3 CDiv fun i j => i / j
def rMod3 : R3 := rI3 (fun _ j => 0 < j) fun i j => i % j
def rPow3 : R3 := rI3 CPow fun i j => i ^ j.toNat
theorem o_sub : OpR3 X (binaryOp .Sub) rSub3 := o_int0 op_sub
theorem o_mul : OpR3 X (binaryOp .Mult) rMul3 := o_int op_mul
theorem o_fdiv : OpR3 X (binaryOp .FloorDiv) rFdiv3 := o_int op_fdiv
theorem o_mod : OpR3 X (binaryOp .Mod) rMod3 := o_int op_mod
theorem o_pow : OpR3 X (binaryOp .Pow) rPow3 := o_int op_pow
def rLt3 : R3 := rB03 fun i j => decide (i < j)
def rGt3 : R3 := rB03 fun i j => decide (j < i)
def rGe3 : R3 := rB03 fun i j => decide (j ≤ i)
theorem o_lt : OpC3 X (compareOp .Lt) rLt3 := o_cmp0 op_lt
theorem o_gt : OpC3 X (compareOp .Gt) rGt3 := o_cmp0 op_gt
theorem o_ge : OpC3 X (compareOp .GtE) rGe3 := o_cmp0 op_ge
/-- ints, or texts -/
def rLe3 : R3 := fun x y G R => match x, y with
  | .int i, .int j => R (.bl (decide (i ≤ j))) G
  | .str i, .str j => R (.bl (!decide (j.cps.toList < i.cps.toList))) G
  | _, _ => False
theorem op_le_str : OpR X (compareOp .LtE) (fun x y H Q => ∃ i j, x = .str i ∧ y = .str j ∧ Q (.bl (!decide (j.cps.toList < i.cps.toList))) H) := by
  intro pins s σ H x y v u Q I rx ry h
  obtain ⟨i, j, rfl, rfl, q⟩ := h
  obtain ⟨t, rfl⟩ := rx
  obtain ⟨t', rfl⟩ := ry
  exact PySem.P.le_str ⟨.bl _, H, I, rfl, q⟩
theorem o_le : OpC3 X (compareOp .LtE) rLe3 := by
  refine ⟨_, op_le.or op_le_str, fun H x y vx vy G R Q rx ry gh h k => ?_⟩
  cases rx with
  | int i =>
    cases ry with
    | int j => exact .inl ⟨i, j, rfl, rfl, k _ H _ G (.refl H) (.bl _) gh h⟩
    | _ => exact False.elim h
  | str i =>
    cases ry with
    | str j => exact .inr ⟨i, j, rfl, rfl, k _ H _ G (.refl H) (.bl _) gh h⟩
    | _ => exact False.elim h
  | _ => exact False.elim h
/-! ### + -/
def rAdd3 : R3 := fun x y G R => match x, y with
  | .int i, .int j => R (.int (i + j)) G
  | .str i, .str j => i.length + j.length ≤ sizeLine ∧ R (.str (i ++ j)) G
  | .tup xs, .tup ys => xs.length + ys.length ≤ sizeLine ∧ R (.tup (xs ++ ys)) G
  | .ref l, .ref m => match G l, G m with
    | some (.lst xs), some (.lst ys) => xs.length + ys.length ≤ sizeLine ∧ ∀ p, G p = none → R (.ref p) (updG G p (.lst (xs ++ ys)))
    | _, _ => False
  | _, _ => False
/-- nothing and a tuple: that tuple -/
theorem op_catT0 : OpR X (binaryOp .Add) (fun x y H Q => ∃ a b ys, x = .ref a ∧ y = .ref b ∧ SqT X.K H a [] ∧ SqT X.K H b ys ∧ Q (.ref b) H) := by
  intro pins s σ H x y v u Q I rx ry h
  obtain ⟨a, b, ys, rfl, rfl, ha, hb, q⟩ := h
  cases rx
  cases ry
  obtain ⟨its, r1, p1, _⟩ := I.tuple ha
  obtain ⟨its2, r2, p2, _⟩ := I.tuple hb
  cases r1
  obtain ⟨⟨cls, dd, data, sl⟩, ho, hc, n, hd⟩ := id p1
  obtain ⟨⟨cls2, dd2, data2, sl2⟩, ho2, hc2, n2, hd2⟩ := id p2
  simp only at hc hd hc2 hd2
  subst hc hd hc2 hd2
  exact concat_meets ⟨_, ho, rfl⟩ ⟨_, ho2, rfl⟩ noFill_tuple_add seq_tuple_add PySem.F.slot_tuple_add PySem.F.entry_tuple_add (PySem.F.args_tuple_add_2 _ _)
      (tuple_addW0 a b #[] its2.toArray n n2 dd dd2 sl sl2 (by simp)) ⟨ho, ho2, ⟨.ref b, H, I, rfl, q⟩⟩
theorem o_add : OpR3 X (binaryOp .Add) rAdd3 := by
  refine ⟨_, op_add.or (op_add_str.or (op_catT.or (op_catT0.or op_cat))), fun H x y vx vy G R Q rx ry gh h k => ?_⟩
  cases rx with
  | int i =>
    cases ry with
    | int j => exact .inl ⟨i, j, rfl, rfl, fun _ => k _ H _ G (.refl H) (.int _) gh h⟩
    | _ => exact False.elim h
  | str i =>
    cases ry with
    | str j => exact .inr (.inl ⟨i, j, rfl, rfl, h.1, fun _ => k _ H _ G (.refl H) (.str _) gh h.2⟩)
    | _ => exact False.elim h
  | @tup a xs ds ha ra ea =>
    cases ry with
    | @tup b ys es hb rb eb =>
      by_cases hn : ds = []
      · subst hn
        cases ra
        exact .inr (.inr (.inr (.inl ⟨a, b, ys, rfl, rfl, ha, hb, fun _ => k _ H _ G (.refl H) (.tup hb rb eb) gh h.2⟩)))
      · refine .inr (.inr (.inl ⟨a, b, xs, ys, rfl, rfl, ha, hb, fun z => hn (ra.nil_iff.mp z), by rw [← ra.length, ← rb.length]; exact h.1, fun z _ => ?_, fun _ p hp _ => ?_⟩))
        · subst z
          cases rb
          have h2 := h.2
          rw [List.append_nil] at h2
          exact k _ H _ G (.refl H) (.tup ha ra ea) gh h2
        · have sn : Same H (upd H p (.tup (xs ++ ys))) := same_new hp
          exact k _ _ _ G (.same sn) (.tup (SqT.of upd_same) ((ra.append rb).mono (.same sn)) upd_same) (gh.same sn) h.2
    | _ => exact False.elim h
  | ref l =>
    cases ry with
    | ref m =>
      have h' : (match G l, G m with
        | some (.lst xs), some (.lst ys) => xs.length + ys.length ≤ sizeLine ∧ ∀ p, G p = none → R (.ref p) (updG G p (.lst (xs ++ ys)))
        | _, _ => False) := h
      split at h'
      · rename_i xs ys e1 e2
        obtain ⟨xv, f1, r1⟩ := gh l _ e1
        obtain ⟨yv, f2, r2⟩ := gh m _ e2
        refine .inr (.inr (.inr (.inr ⟨l, m, xv, yv, rfl, rfl, f1, f2, by rw [← r1.length, ← r2.length]; exact h'.1, fun p hp kf => ?_⟩)))
        have sn : Same H (upd H p (.lst (xv ++ yv))) := same_new hp
        exact k _ _ _ _ (.same sn) (.ref p) (gh.put (u := .lst (xs ++ ys)) hp ⟨_, upd_same, (r1.append r2).mono (.same sn)⟩) (h'.2 p (fresh3 gh hp kf))
      · exact h'.elim
    | _ => exact False.elim h
  | _ => exact False.elim h
/-! ### is None, is True, is False -/
def rIs3 : R3 := fun x y G R => match x, y with
  | .non, .non => R (.bl true) G
  | _, .non => R (.bl false) G
  | .bl i, .bl j => R (.bl (i == j)) G
  | .int _, .bl _ => R (.bl false) G
  | .str _, .bl _ => R (.bl false) G
  | .non, .bl _ => R (.bl false) G
  | .tup _, .bl _ => R (.bl false) G
  | .ref _, .bl _ => R (.bl false) G
  | _, _ => False
def rIsnt3 : R3 := fun x y G R => rIs3 x y G fun d G' => match d with
  | .bl k => R (.bl (!k)) G'
  | _ => False
theorem isV (x : V) (v : Value) (k : Bool) (r : RelV x v) : (v == .bool k) = decide (x = .bl k) := by
  cases x with
  | non => cases r; rfl
  | bl b =>
    cases r
    cases b <;> cases k <;> rfl
  | int _ => obtain ⟨t, rfl⟩ := r; rfl
  | str _ => obtain ⟨t, rfl⟩ := r; rfl
  | byt _ => obtain ⟨t, rfl⟩ := r; rfl
  | flt _ => obtain ⟨t, rfl⟩ := r; rfl
  | ref _ => cases r; rfl
  | ty _ => cases r; rfl
theorem plainIs_b (x : V) (v : Value) (k : Bool) (r : RelV x v) : plainIs v (.bool k) = true := by
  cases x with
  | non => cases r; rfl
  | bl b => cases r; rfl
  | int _ => obtain ⟨t, rfl⟩ := r; rfl
  | str _ => obtain ⟨t, rfl⟩ := r; rfl
  | byt _ => obtain ⟨t, rfl⟩ := r; rfl
  | flt _ => obtain ⟨t, rfl⟩ := r; rfl
  | ref _ => cases r; rfl
  | ty _ => cases r; rfl
theorem op_is_b : OpR X (compareOp .Is) (fun x y H Q => ∃ k, y = .bl k ∧ Q (.bl (decide (x = .bl k))) H) := by
  intro pins s σ H x y v u Q I rx ry h
  obtain ⟨k, rfl, q⟩ := h
  cases ry
  exact wpAny_is_plain (plainIs_b x v k rx) ⟨.bl _, H, I, by rw [isV x v k rx]; rfl, q⟩
theorem op_isnt_b : OpR X (compareOp .IsNot) (fun x y H Q => ∃ k, y = .bl k ∧ Q (.bl (!decide (x = .bl k))) H) := by
  intro pins s σ H x y v u Q I rx ry h
  obtain ⟨k, rfl, q⟩ := h
  cases ry
  exact wpAny_isNot_plain (plainIs_b x v k rx) ⟨.bl _, H, I, by rw [isV x v k rx]; rfl, q⟩
theorem o_is : OpC3 X (compareOp .Is) rIs3 := by
  refine ⟨_, op_isN.or op_is_b, fun H x y vx vy G R Q rx ry gh h k => ?_⟩
  cases ry with
  | non =>
    refine .inl ⟨rfl, ?_⟩
    cases rx with
    | non => exact k _ H _ G (.refl H) (.bl _) gh h
    | _ => exact k _ H _ G (.refl H) (.bl _) gh h
  | bl j =>
    refine .inr ⟨j, rfl, ?_⟩
    cases rx with
    | bl i =>
      have e : decide (V.bl i = V.bl j) = (i == j) := by cases i <;> cases j <;> rfl
      rw [e]
      exact k _ H _ G (.refl H) (.bl _) gh h
    | ty n => exact False.elim h
    | _ => exact k _ H _ G (.refl H) (.bl _) gh h
  | _ => cases rx <;> exact False.elim h
theorem o_isnt : OpC3 X (compareOp .IsNot) rIsnt3 := by
  refine ⟨_, op_notN.or op_isnt_b, fun H x y vx vy G R Q rx ry gh h k => ?_⟩
  cases ry with
  | non =>
    refine .inl ⟨rfl, ?_⟩
    cases rx with
    | non => exact k _ H _ G (.refl H) (.bl _) gh h
    | _ => exact k _ H _ G (.refl H) (.bl _) gh h
  | bl j =>
    refine .inr ⟨j, rfl, ?_⟩
    cases rx with
    | bl i =>
      have e : decide (V.bl i = V.bl j) = (i == j) := by cases i <;> cases j <;> rfl
      rw [e]
      exact k _ H _ G (.refl H) (.bl _) gh h
    | ty n => exact False.elim h
    | _ => exact k _ H _ G (.refl H) (.bl _) gh h
  | _ => cases rx <;> exact False.elim h
/-! ### a[i] -/
def lsOf (G : Gp) (a : Addr) : Option (List D) := match G a with
  | some (.lst ds) => some ds
  | some (.rol ds) => some ds
  | _ => none
theorem lsOf_sq {K : Fg} {H : Hp} {G : Gp} (g : HR K H G) {a : Addr} {ds : List D} (e : lsOf G a = some ds) : ∃ xs, SqL K H a xs ∧ RDs K H ds xs := by
  unfold lsOf at e
  split at e
  · rename_i ds' q
    cases e
    obtain ⟨xs, h1, h2⟩ := g a _ q
    exact ⟨xs, SqL.of h1, h2⟩
  · rename_i ds' q
    cases e
    exact g a _ q
  · cases e
def rIx3 : R3 := fun x y G R => match x, y with
  | .tup xs, .int i => match atI xs i with
    | some d => R d G
    | none => False
  | .str z, .int i => z.length ≤ sizeLine ∧ match atI z.cps.toList i with
    | some c => R (.str ⟨#[c]⟩) G
    | none => False
  | .ref p, .int i => match lsOf G p with
    | some xs => (match atI xs i with
      | some d => R d G
      | none => False)
    | none => False
  | _, _ => False
theorem atI_rd {K : Fg} {H : Hp} {ds : List D} {xs : List V} (r : RDs K H ds xs) {i : Int} {d : D} (e : atI ds i = some d) : ∃ v, atI xs i = some v ∧ RD K H d v := by
  unfold atI at e ⊢
  rw [← r.length]
  cases q : ixN ds.length i with
  | none => rw [q] at e; cases e
  | some j =>
    rw [q] at e
    exact r.get e
def IxI (K : Fg) (r : R2) (r3 : R3) : Prop := OpC K r r3
theorem p_ix (ha : PE3 X a ta) (hb : PE3 X b tb) (hs : PlainIx b) : PE3 X (.Subscript a b pos) (tOp3 rIx3 ta tb) := by
  refine PE.imp (pe_ix ix_seq ha hb hs) fun _ _ _ h => up_cmp ?_ h
  intro H x y vx vy G R Q rx ry gh h k
  cases rx with
  | @tup p xs ds hp r =>
    cases ry with
    | int i =>
      have h' : (match atI ds i with
        | some d => R d G
        | none => False) := h
      split at h'
      · rename_i d e
        obtain ⟨v, e1, e2⟩ := atI_rd r e
        exact .inr (.inl ⟨p, xs, i, v, rfl, rfl, hp, e1, k v H d G (.refl H) e2 gh h'⟩)
      · exact h'.elim
    | _ => exact False.elim h
  | str z =>
    cases ry with
    | int i =>
      have h' : z.length ≤ sizeLine ∧ (match atI z.cps.toList i with
        | some c => R (.str ⟨#[c]⟩) G
        | none => False) := h
      obtain ⟨hz, h'⟩ := h'
      split at h'
      · rename_i d e
        exact .inr (.inr ⟨z, i, d, rfl, rfl, hz, e, k _ H _ G (.refl H) (.str _) gh h'⟩)
      · exact h'.elim
    | _ => exact False.elim h
  | ref p =>
    cases ry with
    | int i =>
      have h' : (match lsOf G p with
        | some xs => (match atI xs i with
          | some d => R d G
          | none => False)
        | none => False) := h
      split at h'
      · rename_i ds e
        obtain ⟨xs, hp, r⟩ := lsOf_sq gh e
        split at h'
        · rename_i d e'
          obtain ⟨v, e1, e2⟩ := atI_rd r e'
          exact .inl ⟨p, xs, i, v, rfl, rfl, hp, e1, k v H d G (.refl H) e2 gh h'⟩
        · exact h'.elim
      · exact h'.elim
    | _ => exact False.elim h
  | _ => exact False.elim h
/-! ### slices -/
abbrev TO3 := St3 → Gp → (Option Int → Gp → Prop) → Prop
def upO (K : Fg) (t : TO3) : TO := fun σ H Q => ∃ ρ G R, SR K H ρ σ ∧ HR K H G ∧ t ρ G R ∧ ∀ i H' G', Ts H H' → HR K H' G' → R i G' → Q i H'
abbrev PO3 (X : Cx) (e : Option Expr) (t : TO3) : Prop := PO X e (upO X.K t)
theorem PO.imp {e : Option Expr} {t t' : TO} (h : PO X e t) (k : ∀ σ H Q, t' σ H Q → t σ H Q) : PO X e t' := fun pins s σ H Q I q => h pins s σ H Q I (k _ _ _ q)
def tNoPart3 : TO3 := fun _ G R => R none G
def tPart3 (t : TE3) : TO3 := fun ρ G R => t ρ G fun x G1 => match x with
  | .int i => R (some i) G1
  | _ => False
theorem o_none : PO3 X none tNoPart3 := PO.imp po_none fun σ H Q h => by
  obtain ⟨ρ, G, R, s, g, t, k⟩ := h
  exact k none H G (.refl H) g t
theorem o_some {e : Expr} {te : TE3} (h : PE3 X e te) : PO3 X (some e) (tPart3 te) := PO.imp (po_some h) fun σ H Q h => by
  obtain ⟨ρ, G, R, s, g, t, k⟩ := h
  refine ⟨ρ, G, _, s, g, t, fun v H1 x G1 t1 r g1 q => ?_⟩
  cases r with
  | int i => exact ⟨i, rfl, k _ H1 G1 t1 g1 q⟩
  | _ => exact False.elim q
def cutD {α : Type} (xs : List α) (lo hi : Option Int) : List α := (xs.drop (HT.sIx xs.length 0 lo)).take (HT.sIx xs.length xs.length hi - HT.sIx xs.length 0 lo)
def tSl3 (te : TE3) (tl th : TO3) : TE3 := fun ρ G R => te ρ G fun x G1 => tl ρ G1 fun lo G2 => th ρ G2 fun hi G3 => match x with
  | .tup xs => R (.tup (cutD xs lo hi)) G3
  | .str z => z.length ≤ sizeLine ∧ R (.str ⟨(cutD z.cps.toList lo hi).toArray⟩) G3
  | .ref p => (match lsOf G3 p with
    | some xs => ∀ q, G3 q = none → R (.ref q) (updG G3 q (.lst (cutD xs lo hi)))
    | none => False)
  | _ => False
end
end L2
set_option Elab.async false
set_option linter.all false
set_option maxRecDepth 100000
set_option maxHeartbeats 4000000
namespace L2
open PySem PySem.Spec PyProof.Rows
/-! ### statements -/
section
variable {X : Cx} {st : Stmt} {rest : List Stmt} {t u : TS3} {e : Expr} {te : TE3} {pos : Pos}
def tNext3 : TS3 := fun F ρ G => F.nx ρ G
def tSeq3 (t u : TS3) : TS3 := fun F ρ G => t { F with nx := u F } ρ G
theorem s_nil : PSs3 X [] tNext3 := PSs.imp pss_nil fun F σ H h => by
  obtain ⟨ρ, G, E, s, g, q, d⟩ := h
  exact d.nx ρ G σ H s g q
theorem up_seq {K : Fg} {F : Ends} {σ : St} {H : Hp} (h : upS K (tSeq3 t u) F σ H) : tSeq (upS K t) (upS K u) F σ H := by
  obtain ⟨ρ, G, E, s, g, q, d⟩ := h
  exact ⟨ρ, G, _, s, g, q, ⟨fun ρ' G' σ' H' s1 g1 h => ⟨ρ', G', E, s1, g1, h, d⟩, d.rt, d.bk, d.ct⟩⟩
theorem s_cons (h1 : PS3 X st t) (h2 : PSs3 X rest u) : PSs3 X (st :: rest) (tSeq3 t u) := PSs.imp (pss_cons h1 h2) fun _ _ _ h => up_seq h
theorem s_one (h1 : PS3 X st t) : PSs3 X [st] t := pss_one h1
def tBreak3 : TS3 := fun F ρ G => F.bk ρ G
def tCont3 : TS3 := fun F ρ G => F.ct ρ G
theorem s_pass : PS3 X (.Pass pos) tNext3 := PS.imp ps_pass fun F σ H h => by
  obtain ⟨ρ, G, E, s, g, q, d⟩ := h
  exact d.nx ρ G σ H s g q
def tDrop3 (te : TE3) : TS3 := fun F ρ G => te ρ G fun _ G1 => F.nx ρ G1
theorem s_expr (he : PE3 X e te) (hs : swapsWith e none pos.line X.env = pure false := by rfl) : PS3 X (.Expr e pos) (tDrop3 te) := PS.imp (ps_expr he hs) fun F σ H h => by
  obtain ⟨ρ, G, E, s, g, q, d⟩ := h
  exact ⟨ρ, G, _, s, g, q, fun v H' x G' t1 r g1 h => d.nx ρ G' σ H' (s.mono t1) g1 h⟩
def tRet3 (te : TE3) : TS3 := fun F ρ G => te ρ G F.rt
theorem s_ret (he : PE3 X e te) : PS3 X (.Return (some e) pos) (tRet3 te) := PS.imp (ps_ret he) fun F σ H h => by
  obtain ⟨ρ, G, E, s, g, q, d⟩ := h
  exact ⟨ρ, G, _, s, g, q, fun v H' x G' t1 r g1 h => d.rt x G' v H' r g1 h⟩
def tRetN3 : TS3 := fun F _ G => F.rt .non G
def tIfS3 (c : TT3) (t u : TS3) : TS3 := fun F ρ G => c ρ G fun b G1 => if b = true then t F ρ G1 else u F ρ G1
theorem s_if {c : Expr} {a b : List Stmt} {tc : TT3} (hc : PT3 X c tc) (ha : PSs3 X a t) (hb : PSs3 X b u) : PS3 X (.If c a b pos) (tIfS3 tc t u) := PS.imp (ps_if hc ha hb) fun F σ H h => by
  obtain ⟨ρ, G, E, s, g, q, d⟩ := h
  refine ⟨ρ, G, _, s, g, q, fun b H' G' t1 g1 h => ?_⟩
  cases b with
  | true => exact ⟨ρ, G', E, s.mono t1, g1, h, d⟩
  | false => exact ⟨ρ, G', E, s.mono t1, g1, h, d⟩
def tSet3 (i : Nat) (te : TE3) : TS3 := fun F ρ G => te ρ G fun x G1 => F.nx (set3 ρ i x) G1
theorem s_set {i : Nat} {x : Str} {pos' : Pos} (hN : X.N.Nodup) (hi : X.N[i]? = some x) (hx : Loc X.env.scope x) (he : PE3 X e te) (hs : swapsWith e (some (.Name x pos')) pos.line X.env = pure false := by rfl) (hf : X.fn x = true ∨ X.env.scope.names.lookup x = some .local := by first | exact .inl rfl | exact .inr rfl | assumption) :
    PS3 X (.Assign [.Name x pos'] e pos) (tSet3 i te) := PS.imp (ps_set hN hi hx he hs hf) fun F σ H h => by
  obtain ⟨ρ, G, E, s, g, q, d⟩ := h
  exact ⟨ρ, G, _, s, g, q, fun v H' x G' t1 r g1 h => d.nx _ G' _ H' ((s.mono t1).set r i) g1 h⟩
/-- o[k] = v of a list -/
def tSetL3 (to ti te : TE3) : TS3 := fun F ρ G => te ρ G fun v G1 => to ρ G1 fun o G2 => ti ρ G2 fun i G3 => match o, i with
  | .ref p, .int k => (match G3 p with
    | some (.lst xs) => (match ixN xs.length k with
      | some j => F.nx ρ (updG G3 p (.lst (xs.set j v)))
      | none => False)
    | _ => False)
  | _, _ => False
end
/-! ### for -/
section
variable {X : Cx} {body : List Stmt} {tb : TS3} {e : Expr} {te : TE3} {pos : Pos}
/-- for x in xs, xs a list that the body leaves as it is -/
def tFor3 (i : Nat) (te : TE3) (tb : TS3) : TS3 := fun F ρ G => te ρ G fun x G1 => match x with
  | .ref p => (match lsOf G1 p with
    | some xs => ∃ P : Nat → St3 → Gp → Prop, P 0 ρ G1 ∧ (∀ k ρ G, k ≤ xs.length → P k ρ G → lsOf G p = some xs) ∧
        (∀ k d ρ G, xs[k]? = some d → P k ρ G → tb { F with nx := P (k + 1), ct := P (k + 1), bk := F.nx } (set3 ρ i d) G) ∧ ∀ ρ G, P xs.length ρ G → F.nx ρ G
    | none => False)
  | _ => False
/-- what a for wants of its iterator, from a word over what is known -/
theorem for_core {K : Fg} {J : It} {g : TG} {tb : TS} {F : Ends} {σ : St} {H : Hp} {n : Nat} (Pv : Nat → St → Hp → Prop) (h0 : Pv 0 σ H)
    (stop : ∀ σ H, Pv n σ H → J.stop n H) (go : ∀ i σ H, i < n → Pv i σ H → J.go i H)
    (hs : ∀ i x σ H H', i < n → Pv i σ H → J.yld i H x H' → g x σ H' fun σ2 H2 => tb { F with nx := Pv (i + 1), ct := Pv (i + 1), bk := F.nx } σ2 H2) (hd : ∀ σ H, Pv n σ H → F.nx σ H) :
    ∃ W : Nat → Nat → St → Hp → Prop, (∃ m, W 0 m σ H) ∧ ∀ i m σ H, W i m σ H →
      (J.stop i H ∧ F.nx σ H) ∨ (J.go i H ∧ ∃ N : St → Hp → Prop, (∀ σ' H', N σ' H' → ∃ m', m' < m ∧ W (i + 1) m' σ' H') ∧ ∀ x H', J.yld i H x H' → g x σ H' fun σ2 H2 => tb { F with nx := N, ct := N, bk := F.nx } σ2 H2) := by
  refine ⟨fun i m σ H => m = n - i ∧ i ≤ n ∧ Pv i σ H, ⟨n, by simp, Nat.zero_le _, h0⟩, ?_⟩
  rintro i m σ H ⟨rfl, hi, p⟩
  by_cases hlt : i < n
  · exact .inr ⟨go i σ H hlt p, Pv (i + 1), fun σ' H' p' => ⟨n - (i + 1), by omega, rfl, hlt, p'⟩, fun x H' y => hs i x σ H H' hlt p y⟩
  · have e : i = n := by omega
    subst e
    exact .inl ⟨stop σ H p, hd σ H p⟩
/-- for k in range(n) -/
def tForR3 (i : Nat) (ta : TA3) (tb : TS3) : TS3 := fun F ρ G => ta ρ G fun xs G1 => match xs with
  | [.int j] => -(2 ^ 62) ≤ j ∧ j < 2 ^ 62 ∧ ∃ P : Nat → St3 → Gp → Prop, P 0 ρ G1 ∧ (∀ k ρ G, k < j.toNat → P k ρ G → tb { F with nx := P (k + 1), ct := P (k + 1), bk := F.nx } (set3 ρ i (.int k)) G) ∧ ∀ ρ G, P j.toNat ρ G → F.nx ρ G
  | _ => False
end
/-! ### what a def promises, and its call -/
abbrev EXK := Addr → Gp → Prop
abbrev Sp3 := List D → Gp → VK3 → EXK → Prop
def UpX (K : Fg) (EX : EXK) (E : XK) : Prop := ∀ C H' G', HR K H' G' → EX C G' → E (.ref C) none H'
def upSp (K : Fg) (sp : Sp3) : Sp := fun vs H Q E => ∃ ds G R EX, RDs K H ds vs ∧ HR K H G ∧ sp ds G R EX ∧ (∀ v H' d G', RD K H' d v → HR K H' G' → R d G' → Q v H') ∧ UpX K EX E
section
variable {X : Cx} {CX : CXT} {k : Nat} {f C : Addr} {fd : FuncData} {ps : List Str} {sp : Sp3} {E : XK} {EX : EXK} {x : Str} {p pos : Pos} {e : Expr} {es : List Expr} {t : TA3}
def spOf (n m : Nat) (tb : EXK → TS3) : Sp3 := fun ds G R EX => ds.length = m ∧ tb EX ⟨fun _ G' => R .non G', R, fun _ _ => False, fun _ _ => False⟩ (start3 n ds) G
end
end L2
set_option Elab.async false
set_option linter.all false
set_option maxRecDepth 100000
set_option maxHeartbeats 4000000
namespace L2
open PySem PySem.Spec PyProof.Rows
/-! ### an exception that left a call: its class, the tracked heap behind it -/
def CX1 (P : Program) (w : World) : CXT := fun outer H s E e s' => ∃ (x C : Addr) (H' : Hp) (B : Heap), e = .ref x ∧ Fly B outer x (.ref C) s'.heap ∧ HOk P w H' B ∧
  (∀ b o, s.heap.get? b = some o → H b = none → b ∉ frs outer → B.get? b = some o) ∧ (∀ b o, s.heap.get? b = some o → b ∉ frs outer → ∃ o', B.get? b = some o') ∧
  Un (frs outer) [] H H' s.heap s'.heap ∧ s'.os = s.os ∧ AllBare s'.gens ∧ E (.ref C) none H'
theorem frs_mem {l : List Env} {b : Addr} (h : b ∈ frs l) : ∃ env ∈ l, env.frame = some b := List.mem_filterMap.mp h
theorem mem_frs {l : List Env} {b : Addr} {env : Env} (h : env ∈ l) (e : env.frame = some b) : b ∈ frs l := List.mem_filterMap.mpr ⟨env, h, e⟩
section
variable {qt : Bool} {P : Program} {w : World} {K : Fg} {mg : Str → Option Value} {base : Heap} {N : List Str} {qual : Str} {scope : Scope} {f : Addr} {cd : Value} {A : Around} {outer : List Env} {s₀ : Shared} {H₀ : Hp} {E : XK}
abbrev cx1 (qt : Bool) (P : Program) (w : World) (K : Fg) (mg : Str → Option Value) (base : Heap) (N : List Str) (qual : Str) (scope : Scope) (f : Addr) (cd : Value) (A : Around) (outer : List Env) (s₀ : Shared) (H₀ : Hp) (E : XK) : Cx := cxOf qt (CX1 P w) P w K mg base N qual scope f cd A outer s₀ H₀ E
/-- an address of the entry is not this frame's -/
theorem not_stack {X : Cx} {pins : List (Addr × Obj)} {σ : St} {H : Hp} {s : Shared} (I : Inv X pins σ H s) (hst : X.stack = X.env :: X.outer) (hf : X.env.frame = some X.env.locals) {b : Addr} {o : Obj} (e : X.s₀.heap.get? b = some o) (n : b ∉ frs X.outer) : b ∉ frs X.stack := fun hb => by
  obtain ⟨env, he, hfr⟩ := frs_mem hb
  rw [hst] at he
  rcases List.mem_cons.mp he with rfl | he
  · have z : X.env.locals = b := Option.some.inj (hf.symm.trans hfr)
    have h1 := I.ok.above
    have h2 := Heap.lt_size e
    rw [z] at h1
    exact absurd (Nat.lt_of_lt_of_le h2 h1) (Nat.lt_irrefl _)
  · exact n (mem_frs he hfr)
/-- an exception made here leaves the def -/
theorem throws1 {pins : List (Addr × Obj)} {σ : St} {H : Hp} {s : Shared} {C e : Addr} {us : List Value} {h' : Heap} (I : Inv (cx1 qt P w K mg base N qual scope f cd A outer s₀ H₀ E) pins σ H s) (hm : Heap.MadeExcOf s.heap h' e (.ref C) us) (q : E (.ref C) none H) :
    (cx1 qt P w K mg base N qual scope f cd A outer s₀ H₀ E).xe (.ref e) { s with heap := h' } := by
  have hst : (cx1 qt P w K mg base N qual scope f cd A outer s₀ H₀ E).stack = (cx1 qt P w K mg base N qual scope f cd A outer s₀ H₀ E).env :: outer := rfl
  have hin : ∀ env ∈ (cx1 qt P w K mg base N qual scope f cd A outer s₀ H₀ E).stack, ∀ b, env.frame = some b → b ∈ frs (cx1 qt P w K mg base N qual scope f cd A outer s₀ H₀ E).stack := fun env he b hb => mem_frs he hb
  have hB : ∀ b o, (PySem.W.hideAll s.heap (frs (cx1 qt P w K mg base N qual scope f cd A outer s₀ H₀ E).stack)).get? b = some o → s.heap.get? b = some o := fun b o e => PySem.W.of_hideAll _ e
  have toB : ∀ b o, s.heap.get? b = some o → b ∉ frs (cx1 qt P w K mg base N qual scope f cd A outer s₀ H₀ E).stack → (PySem.W.hideAll s.heap (frs (cx1 qt P w K mg base N qual scope f cd A outer s₀ H₀ E).stack)).get? b = some o := fun b o e n => PySem.W.hideAll_get _ e n
  have fr := PySem.W.funFrames_hide I.stack hin
  refine leave_made (B := PySem.W.hideAll s.heap (frs (cx1 qt P w K mg base N qual scope f cd A outer s₀ H₀ E).stack)) (h0 := s.heap) I.ok.frames rfl hB fr hm fun h2 k1 k4 => ?_
  have up : ∀ b o, s.heap.get? b = some o → (∀ vs, o.data ≠ .fields vs) → ∃ sl, h2.get? b = some { o with slots := sl } := fun b o e nd => k4 b o (hm.keeps b o e) nd
  have hfd : ∀ b ∈ frs outer, ∀ o, s.heap.get? b = some o → ∀ vs, o.data ≠ .fields vs := fun b hb o e => by
    obtain ⟨_, o', ho', hd⟩ := I.funs.mem hb
    rw [e] at ho'; cases ho'
    exact hd
  refine ⟨e, C, H, _, rfl, k1, ?_, fun b o eb nb hb => ?_, fun b o eb hb => ?_, ⟨fun b o eb nb hb _ => ?_, fun b o eb nb hb _ => ?_, fun b o eb nb hx => I.base.free b o eb nb hx, fun b o eb hx => ?_, I.base.tups, I.base.frzs, I.base.tbls⟩, I.os, I.bare, q⟩
  · intro b o hb
    refine (I.hok b o hb).stay (fun c u hc eu => toB c u eu fun hz => ?_) (fun _ z => z) fun _ _ z => z
    have n := I.stkFree c hz
    rcases hc with rfl | hc
    · rw [hb] at n; cases n
    · rw [hc] at n; cases n
  · exact toB b o (I.base.keep b o eb nb hb (by simp [cxOf])) (not_stack I hst rfl eb hb)
  · obtain ⟨o', e'⟩ := I.base.there b o eb (by simp [cxOf])
    exact ⟨o', toB b o' e' (not_stack I hst rfl eb hb)⟩
  · exact k1.stays b o (toB b o (I.base.keep b o eb nb hb (by simp [cxOf])) (not_stack I hst rfl eb hb))
  · obtain ⟨sl, e1⟩ := I.base.slot b o eb nb hb (by simp [cxOf])
    obtain ⟨sl2, e2⟩ := up b _ e1 (hfd b hb _ e1)
    exact ⟨sl2, e2⟩
  · obtain ⟨o', e'⟩ := I.base.there b o eb (by simp [cxOf])
    by_cases hb : b ∈ frs outer
    · obtain ⟨sl, e1⟩ := up b o' e' (hfd b hb o' e')
      exact ⟨_, e1⟩
    · exact ⟨o', k1.stays b o' (toB b o' e' (not_stack I hst rfl eb hb))⟩
/-- one that left a callee leaves the def -/
theorem passes1 {E' : XK} (hE : ∀ C H', E' C none H' → E C none H') {pins : List (Addr × Obj)} {σ : St} {H : Hp} {s s' : Shared} {e : Value} (I : Inv (cx1 qt P w K mg base N qual scope f cd A outer s₀ H₀ E) pins σ H s)
    (c : CX1 P w (cx1 qt P w K mg base N qual scope f cd A outer s₀ H₀ E).stack H s E' e s') : (cx1 qt P w K mg base N qual scope f cd A outer s₀ H₀ E).xe e s' := by
  obtain ⟨x, C, H', B, rfl, fl, hok, cov, covT, un, os, bare, q⟩ := c
  have hst : (cx1 qt P w K mg base N qual scope f cd A outer s₀ H₀ E).stack = (cx1 qt P w K mg base N qual scope f cd A outer s₀ H₀ E).env :: outer := rfl
  refine leave_on (B := B) I.ok.frames rfl fl fun h2 k1 k4 => ?_
  have hfs : ∀ b ∈ frs outer, b ∈ frs (cx1 qt P w K mg base N qual scope f cd A outer s₀ H₀ E).stack := fun b hb => by
    obtain ⟨env, he, hf⟩ := frs_mem hb
    exact mem_frs (List.mem_cons_of_mem _ he) hf
  have hfd : ∀ b ∈ frs outer, ∀ o, s'.heap.get? b = some o → ∀ vs, o.data ≠ .fields vs := fun b hb o e => by
    obtain ⟨_, o', ho', hd⟩ := fl.fun_.mem (hfs b hb)
    rw [e] at ho'; cases ho'
    exact hd
  refine ⟨x, C, H', B, rfl, k1, hok, fun b o eb nb hb => ?_, fun b o eb hb => ?_, ⟨fun b o eb nb hb _ => ?_, fun b o eb nb hb _ => ?_, fun b o eb nb hx => ?_, fun b o eb hx => ?_, fun b xs z => un.tups b xs (I.base.tups b xs z), fun b o u z => un.frzs b o u (I.base.frzs b o u z), fun b ps z => ?_⟩, os.trans I.os, bare, hE _ _ q⟩
  · exact cov b o (I.base.keep b o eb nb hb (by simp [cxOf])) (I.base.free b o eb nb (by simp [cxOf])) (not_stack I hst rfl eb hb)
  · obtain ⟨o', e'⟩ := I.base.there b o eb (by simp [cxOf])
    exact covT b o' e' (not_stack I hst rfl eb hb)
  · exact k1.stays b o (cov b o (I.base.keep b o eb nb hb (by simp [cxOf])) (I.base.free b o eb nb (by simp [cxOf])) (not_stack I hst rfl eb hb))
  · obtain ⟨sl, e1⟩ := I.base.slot b o eb nb hb (by simp [cxOf])
    obtain ⟨sl2, e2⟩ := un.slot b _ e1 (I.base.free b o eb nb (by simp [cxOf])) (hfs b hb) (by simp)
    obtain ⟨sl3, e3⟩ := k4 b _ e2 (hfd b hb _ e2)
    exact ⟨sl3, e3⟩
  · obtain ⟨o', e'⟩ := I.base.there b o eb (by simp [cxOf])
    exact un.free b o' e' (I.base.free b o eb nb (by simp [cxOf])) (by simp)
  · obtain ⟨o', e'⟩ := I.base.there b o eb (by simp [cxOf])
    by_cases hb : b ∈ frs outer
    · obtain ⟨o2, e2⟩ := un.there b o' e' (by simp)
      obtain ⟨sl, e3⟩ := k4 b o2 e2 (hfd b hb o2 e2)
      exact ⟨_, e3⟩
    · obtain ⟨o2, e2⟩ := covT b o' e' (not_stack I hst rfl eb hb)
      exact ⟨o2, k1.stays b o2 e2⟩
  · obtain ⟨m1, e1⟩ := I.base.tbls b ps z
    obtain ⟨m2, e2⟩ := un.tbls b _ e1
    exact ⟨m1 ++ m2, by rw [e2, Array.append_assoc]⟩
end
/-! ### the context's word on exceptions -/
/-- what a word on exceptions says at the tracked heap -/
def liftX (K : Fg) (EX : EXK) : XK := fun C _ H' => ∃ c G', C = .ref c ∧ HR K H' G' ∧ EX c G'
structure Cat (X : Cx) (EX : St3 → EXK) : Prop where
  flies : ∀ pins σ H s ρ e s', Inv X pins σ H s → SR X.K H ρ σ → CX1 X.prog X.w X.stack H s (liftX X.K (EX ρ)) e s' → X.xe e s'
structure Thr (X : Cx) (EX : St3 → EXK) : Prop where
  made : ∀ pins σ H s ρ C e us h', Inv X pins σ H s → SR X.K H ρ σ → Heap.MadeExcOf s.heap h' e (.ref C) us → liftX X.K (EX ρ) (.ref C) none H → X.xe (.ref e) { s with heap := h' }
section
variable {qt : Bool} {P : Program} {w : World} {K : Fg} {mg : Str → Option Value} {base : Heap} {N : List Str} {qual : Str} {scope : Scope} {f : Addr} {cd : Value} {A : Around} {outer : List Env} {s₀ : Shared} {H₀ : Hp} {E : XK} {EX : EXK}
theorem liftX_of (h : UpX K EX E) {C : Value} {H' : Hp} (q : liftX K EX C none H') : E C none H' := by
  obtain ⟨c, G', rfl, g, q⟩ := q
  exact h c H' G' g q
theorem cat1 (h : UpX K EX E) : Cat (cx1 qt P w K mg base N qual scope f cd A outer s₀ H₀ E) (fun _ => EX) :=
  ⟨fun pins σ H s ρ e s' I _ c => passes1 (E' := liftX K EX) (fun C H' q => liftX_of h q) I c⟩
theorem thr1 (h : UpX K EX E) : Thr (cx1 qt P w K mg base N qual scope f cd A outer s₀ H₀ E) (fun _ => EX) :=
  ⟨fun pins σ H s ρ C e us h' I _ hm q => throws1 I hm (liftX_of h q)⟩
theorem own1 : PassesOwn (model P w) (cx1 qt P w K mg base N qual scope f cd A outer s₀ H₀ E).A (cx1 qt P w K mg base N qual scope f cd A outer s₀ H₀ E).env (cx1 qt P w K mg base N qual scope f cd A outer s₀ H₀ E).xe := PassesOwn.leaving
end
/-! ### a call, whatever becomes of it -/
section
variable {X : Cx} {k : Nat} {f C : Addr} {fd : FuncData} {ps : List Str} {sp : Sp3} {EX : St3 → EXK} {x : Str} {p pos : Pos} {e : Expr} {es : List Expr} {t : TA3}
def tCallX (sp : Sp3) (EX : St3 → EXK) (t : TA3) : TE3 := fun ρ G R => t ρ G fun ds G1 => sp ds G1 R (EX ρ)
theorem run_fn3 {pins : List (Addr × Obj)} {σ : St} {H : Hp} {s : Shared} {Q Q' : VK} {us : List Value} {vs : List V} {E : XK} (F : FnOk qt X.prog X.w X.K X.mg X.base (CX1 X.prog X.w) k f fd ps (upSp X.K sp)) (hr : Room qt k X.A) (hb : Binds X.K fd ps [])
    (hx : ∀ e s', CX1 X.prog X.w X.stack H s E e s' → X.xe e s')
    (I : Inv X pins σ H s) (r : Vals vs us) (h : upSp X.K sp vs H Q E) (hQ : ∀ v H', Ts H H' → Q v H' → Q' v H') : wpAny (model X.prog X.w) X.A (call (.ref f) us) (EP X pins σ Q') X.xe s := by
  have hl : (us ++ []).length = ps.length := by rw [List.append_nil, ← r.length]; exact F.len _ _ _ _ h
  refine wpAny_call (codeAny_mono (F.run X.A X.stack s H ⟨us, []⟩ (us ++ []) vs Q E hr I.env0 (hb s us I.kIn hl) (by rw [List.append_nil]; exact r) h) fun r s' hq => ?_)
  cases r with
  | error e => exact hx e s' hq
  | ok fl =>
    cases fl with
    | ret u =>
      obtain ⟨v, H', os, bare, un, hok, r, q⟩ := hq
      exact ⟨v, H', I.call' (ch := []) os un hok bare (fun b z => absurd z (by simp)), r, hQ v H' ⟨un.tups, un.frzs⟩ q⟩
    | next => exact False.elim hq
    | brk => exact False.elim hq
    | cont => exact False.elim hq
theorem p_callX (F : FnOk qt X.prog X.w X.K X.mg X.base (CX1 X.prog X.w) k f fd ps (upSp X.K sp)) (hr : Room qt k X.A) (hg : Gl X x) (hm : X.mg x = some (.ref f)) (hk : PySem.W.keepIn X.K (.ref f) = true) (hb : Binds X.K fd ps []) (hx : Cat X EX)
    (ha : PA3 X (e :: es) t) (hdb : (x == ("__debug__" : Str)) = false := by decide) (he : starEach (e :: es) X.env = (false, eval e X.env) :: starEach es X.env := by rfl) (hpl : (backTo pos (starEach es X.env)).any (·.1) = false := by rfl) :
    PE3 X (.Call (.Name x p) (e :: es) [] pos) (tCallX sp EX t) := by
  intro pins s σ H Q I h
  obtain ⟨ρ, G, R, sr, g, q, kk⟩ := h
  refine wpAny_Call_Name_kw (ld_glob I hg hm ?_ hdb)
  refine PySem.W.callWith_K (h₀ := X.base) I.ok.mod.kin hk (thn (ha pos pins s σ H (fun vs H1 => Ts H H1 ∧ ∃ ds G1, RDs X.K H1 ds vs ∧ HR X.K H1 G1 ∧ sp ds G1 R (EX ρ)) I ⟨ρ, G, _, sr, g, q, fun vs H1 ds G1 t1 r1 g1 q1 => ⟨t1, ds, G1, r1, g1, q1⟩⟩) fun us s1 ⟨vs, H1, I1, r, t1, ds, G1, r1, g1, q1⟩ => ⟨I1.kIn, ?_⟩) he hpl
  refine run_fn3 (E := liftX X.K (EX ρ)) F hr hb (fun e s' c => hx.flies pins σ H1 s1 ρ e s' I1 (sr.mono t1) c) I1 r (Q := fun v H' => ∃ d G', RD X.K H' d v ∧ HR X.K H' G' ∧ R d G') ⟨ds, G1, R, EX ρ, r1, g1, q1, fun v H' d G' r2 g2 q2 => ⟨d, G', r2, g2, q2⟩, fun C H' G' g' q' => ⟨C, G', rfl, g', q'⟩⟩ fun v H' t2 ⟨d, G', r2, g2, q2⟩ => kk v H' d G' (t1.trans t2) r2 g2 q2
/-! ### a def -/
theorem def_ok {qt : Bool} {P : Program} {w : World} {K : Fg} {mg : Str → Option Value} {base : Heap} {x qual : Str} {st : Stmt} {f : Addr} {fd : FuncData} {N ps : List Str} {k : Nat} {tb : EXK → TS3} (F : Fun K x qual st f fd) (S : FnScope N ps (defScope st))
    (hbody : ∀ (cdv : Value) (A : Around) (outer : List Env) (s : Shared) (H : Hp) (E : XK) (EX : EXK), Room qt k (A.deeper (envOfC qual (defScope st) s.heap.objs.size f cdv)) → UpX K EX E →
      PSs3 (cx1 qt P w K mg base N qual (defScope st) f cdv A outer s H E) (defBody st) (tb EX)) : FnOk qt P w K mg base (CX1 P w) (k + 1) f fd ps (upSp K (spOf N.length ps.length tb)) := by
  obtain ⟨oc, od, dV, kV, doc, pm, an, cdv, ct, osl, rfl, lk, hcd⟩ := F.ex
  have hpl : ps.length ≤ N.length := by have := congrArg List.length S.pre; rw [List.length_take] at this; omega
  refine fn_of lk hcd S (fun vs H Q E h => ?_) fun A outer s H vs Q E hr hsp => ?_
  · obtain ⟨ds, G, R, EX, r, g, ⟨hl, q⟩, _⟩ := h
    rw [← r.length, hl]
  · obtain ⟨ds, G, R, EX, r, g, ⟨hl, q⟩, kk, hE⟩ := hsp
    refine ⟨_, hbody cdv A outer s H E EX hr hE, start3 N.length ds, G, _, ?_, g, q, ⟨fun ρ G' σ' H' s1 g1 q1 => kk .non H' .non G' .non g1 q1, fun d G' v H' r1 g1 q1 => kk v H' d G' r1 g1 q1, fun _ _ _ _ _ _ z => z.elim, fun _ _ _ _ _ _ z => z.elim⟩⟩
    unfold start3 start
    rw [r.length]
    exact SR.entry r
end
/-! ### raise C(..) -/
section
variable {X : Cx} {C : Addr} {bmB bmN : List Value} {B Bn newId nid initId inN : String} {EX : St3 → EXK} {x : Str} {np cpos pos : Pos} {e : Expr} {es : List Expr} {t : TA3}
theorem exc_obj {K : Fg} {h : Heap} (XK : K.In h) (q : PySem.W.excIn K C bmB newId = true) : ∃ bm N nm q bs hdct sn sub ab col dd k0 k1 k2 k3 k5 mN, h.get? C = some (excClassObj nm q C N bs bm hdct sn sub ab col dd k0 k1 k2 k3 k5 newId) ∧ h.Ns N mN ∧ mN "__init__" = none ∧ OwnTail h bmB bm := by
  unfold PySem.W.excIn at q
  split at q
  · rename_i dd cd sl ho
    split at q
    · rename_i C' bm k0 k1 k2 k3 n k5 hm hs
      simp only [Bool.and_eq_true, beq_iff_eq, Bool.not_eq_true'] at q
      obtain ⟨⟨⟨⟨⟨rfl, rfl⟩, hdel⟩, ht⟩, hok⟩, hni⟩ := q
      obtain ⟨nm, bs, mro, ns, qn, hd, sn, sub, ab, col, del⟩ := cd
      dsimp only at hm hdel hok hni
      subst hm hdel
      have hsl : sl = #[k0, k1, k2, k3, some (.builtin n), k5] := by
        obtain ⟨l⟩ := sl
        simp only at hs
        rw [hs]
      subst hsl
      exact ⟨bm, ns, nm, qn, bs, hd, sn, sub, ab, col, dd, k0, k1, k2, k3, k5, _, XK _ _ ho, .of_isNs (PySem.W.isNs_of_in XK hok), PySem.W.nsMap_none_of_in XK hok hni, PySem.W.tail_of_in XK ht⟩
    · cases q
  · cases q
def tRaise3 (EX : St3 → EXK) (C : Addr) (t : TA3) : TS3 := fun _ ρ G => t ρ G fun ds G1 => ds.length ≤ sizeLine ∧ EX ρ C G1
theorem s_raise (hc : X.calm = true) (Fn : ExcBaseFacts Bn newId inN bmN) (hBn : bmB.contains (.type Bn) = true) (FB : ExcBaseFacts B nid initId bmB) (hg : Gl X x) (hm : X.mg x = some (.ref C)) (hq : PySem.W.excIn X.K C bmB newId = true) (hT : Thr X EX)
    (ha : PA3 X (e :: es) t) (hd : (x == ("__debug__" : Str)) = false := by decide)
    (he : starEach (e :: es) X.env = (false, eval e X.env) :: starEach es X.env := by rfl) (hplain : (backTo cpos (starEach es X.env)).any (·.1) = false := by rfl) :
    PS3 X (.Raise (some (.Call (.Name x np) (e :: es) [] cpos)) none pos) (tRaise3 EX C t) := by
  intro pins s σ H F I h
  obtain ⟨ρ, G, E3, sr, g, q, dd⟩ := h
  obtain ⟨tl, N, nm, q', bs, hdct, sn, sub, ab, col, dd', k0, k1, k2, k3, k5, mN, hC, hN, hni, T⟩ := exc_obj I.mod.kin hq
  refine wpAny_Raise_call_subU (C := C) (nm := nm) (q := q') (N := N) (bs := bs) (bm := tl) (hdct := hdct) (sn := sn) (sub := sub) (ab := ab) (col := col) (dd := dd') (k0 := k0) (k1 := k1) (k2 := k2) (k3 := k3) (k5 := k5)
    Fn hBn FB (mN := mN) (T.hasType FB.hasBase) (I.ok.hd hc) (by rw [he]; show (false || (backTo cpos (starEach es X.env)).any (·.1)) = false; rw [hplain]; rfl) hni (ld_glob I hg hm ⟨rfl, ?_⟩ hd)
  have hA := ha cpos pins s σ H (fun vs H1 => Ts H H1 ∧ ∃ ds G1, RDs X.K H1 ds vs ∧ HR X.K H1 G1 ∧ ds.length ≤ sizeLine ∧ EX ρ C G1) I ⟨ρ, G, _, sr, g, q, fun vs H1 ds G1 t1 r1 g1 q1 => ⟨t1, ds, G1, r1, g1, q1.1, q1.2⟩⟩
  rw [he] at hA ⊢
  refine Calls.evalArgs_plain (thn hA fun us s2 ⟨vs, H2, I2, r2, t1, ds, G1, r1, g1, hl, q1⟩ => ?_)
  exact ⟨rfl, by rw [← r2.length, ← r1.length]; exact hl, I2.bk _ _ hC, hN.keeps I2.bk, T.keeps I2.bk, fun h' e' hm' => hT.made pins σ H2 s2 ρ C e' us h' I2 (sr.mono t1) hm' ⟨C, G1, rfl, g1, q1⟩⟩
end
end L2
set_option Elab.async false
set_option linter.all false
set_option maxRecDepth 100000
set_option maxHeartbeats 4000000
namespace L2
open PySem PySem.Spec PyProof.Rows
/-! ### try: .. except C as e: .. -/
def clr3 : St3 → Nat → St3
  | [], _ => []
  | _ :: r, 0 => none :: r
  | x :: r, n + 1 => x :: clr3 r n
def clrV : St → Nat → St
  | [], _ => []
  | _ :: r, 0 => none :: r
  | x :: r, n + 1 => x :: clrV r n
section
variable {X : Cx}
/-- the body's context: an exception that leaves a call of it is kept, with the state at that call -/
def xeT (X : Cx) (EX : St3 → EXK) : Value → Shared → Prop := fun e s' => ∃ pins σ H s ρ, Inv X pins σ H s ∧ SR X.K H ρ σ ∧ CX1 X.prog X.w X.stack H s (liftX X.K (EX ρ)) e s'
abbrev tryX (X : Cx) (pn : List (Addr × Obj)) (EX : St3 → EXK) : Cx := { X with pn := X.pn ++ pn, xe := xeT { X with pn := X.pn ++ pn } EX }
abbrev hanX (X : Cx) (x : Addr) : Cx := { X with A := X.A.mark (some (.ref x)), calm := false, xe := fun _ _ => False }
theorem catT (pn : List (Addr × Obj)) (EX : St3 → EXK) : Cat (tryX X pn EX) EX := ⟨fun pins σ H s ρ e s' I sr c =>
  ⟨pins, σ, H, s, ρ, ⟨⟨I.ok.mod, I.ok.kind, I.ok.glob, I.ok.blt, I.ok.above, I.ok.inj, I.ok.has, I.ok.cab, I.ok.hd, I.ok.frames, I.ok.stk, I.ok.exf, I.ok.bs, I.ok.bsz, I.ok.noex, I.ok.exfs, I.ok.funs, I.ok.frf⟩, I.os, I.bare, I.base, I.loc, I.cell, I.free, I.freeC, I.pin, I.hok, I.len, I.hnd, I.tup⟩, sr, c⟩⟩
def tTry3 (K : Fg) (Dc : Addr) (i : Nat) (tb : (St3 → EXK) → TS3) (th : TS3) : TS3 := fun F ρ G =>
  tb (fun ρ1 C G1 => PySem.W.subIn K (.ref C) (.ref Dc) = some true ∧ ∀ x, G1 x = none → th { nx := fun ρ2 G2 => F.nx (clr3 ρ2 i) G2, rt := F.rt, bk := fun ρ2 G2 => F.bk (clr3 ρ2 i) G2, ct := fun ρ2 G2 => F.ct (clr3 ρ2 i) G2 } (set3 ρ1 i (.ref x)) (updG G1 x (.exn C))) F ρ G
theorem hok_free {P : Program} {w : World} {H : Hp} {B : Heap} {x : Addr} (hok : HOk P w H B) (n : B.get? x = none) : H x = none := by
  cases e0 : H x with
  | none => rfl
  | some o =>
    have lt := (hok x o e0)
    obtain ⟨o', ho'⟩ : ∃ o', B.get? x = some o' := by
      cases o with
      | lst xs => obtain ⟨_, _, _, _, e⟩ := lt; exact ⟨_, e⟩
      | tup xs => obtain ⟨_, _, _, o, e, _⟩ := lt; exact ⟨_, e⟩
      | dK kvs => obtain ⟨_, _, _, _, o, _, _, e, _⟩ := lt; exact ⟨_, e⟩
      | dT kvs => obtain ⟨_, _, _, _, o, _, _, e, _⟩ := lt; exact ⟨_, e⟩
      | set S n => obtain ⟨o, _, _, _, e, _⟩ := lt; exact ⟨_, e⟩
      | ins C dx fs => obtain ⟨_, _, _, e, _⟩ := lt; exact ⟨_, e⟩
      | own y => obtain ⟨_, e⟩ := lt; exact ⟨_, e⟩
      | xd fs => obtain ⟨_, ⟨_, _, _, e, _⟩, _⟩ := lt; exact ⟨_, e⟩
      | rng lo hi => obtain ⟨_, _, _, e⟩ := lt; exact ⟨_, e⟩
      | frz ob u => obtain ⟨e, _⟩ := lt; exact ⟨_, e⟩
      | tbl ps => exact ⟨_, (show B.get? x = some _ from lt)⟩
      | met f y => exact ⟨_, (show B.get? x = some _ from lt)⟩
      | ext φ => obtain ⟨_, ⟨_, e⟩, _⟩ := lt; exact ⟨_, e⟩
    rw [n] at ho'; cases ho'
end
end L2
set_option Elab.async false
set_option linter.all false
set_option maxRecDepth 100000
set_option maxHeartbeats 4000000
namespace L2
open PySem PySem.Spec PyProof.Rows
section
variable {X : Cx} {a b c : Expr} {ta tb tc : TE3} {pos : Pos}
def tNeg3 (t : TE3) : TE3 := fun ρ G R => t ρ G fun x G1 => match x with
  | .int i => R (.int (-i)) G1
  | _ => False
theorem p_neg (ha : PE3 X a ta) : PE3 X (.UnaryOp .USub a pos) (tNeg3 ta) := PE.imp (pe_un un_neg ha) fun σ H Q h => by
  obtain ⟨ρ, G, R, s, g, t, k⟩ := h
  refine ⟨ρ, G, _, s, g, t, fun v H1 x G1 t1 r g1 q => ?_⟩
  cases r with
  | int i => exact ⟨i, rfl, k _ H1 _ G1 t1 (.int _) g1 q⟩
  | _ => exact False.elim q
/-! ### == -/
def shal : Nat → D → Bool
  | 0, .tup _ => false
  | n + 1, .tup xs => xs.all (shal n)
  | _, .ref _ => false
  | _, .ty _ => false
  | _, _ => true
mutual
def eqP : D → D → Bool
  | .non, .non => true
  | .bl a, .bl b => a == b
  | .bl a, .int b => (if a then 1 else 0) == b
  | .int a, .bl b => a == (if b then 1 else 0)
  | .int a, .int b => a == b
  | .str a, .str b => a == b
  | .tup xs, .tup ys => eqPs xs ys
  | _, _ => false
def eqPs : List D → List D → Bool
  | [], [] => true
  | x :: xs, y :: ys => eqP x y && eqPs xs ys
  | _, _ => false
end
def nthP (xs ys : List D) (j : Nat) : Bool := match xs[j]?, ys[j]? with
  | some a, some b => eqP a b
  | _, _ => false
theorem range_all_succ (n : Nat) (e : Nat → Bool) : (List.range (n + 1)).all e = (e 0 && (List.range n).all fun j => e (j + 1)) := by
  rw [List.range_succ_eq_map, List.all_cons, List.all_map]; rfl
theorem eqPs_range : ∀ (xs ys : List D), eqPs xs ys = ((List.range (min xs.length ys.length)).all (nthP xs ys) && xs.length == ys.length)
  | [], [] => rfl
  | [], y :: ys => by simp [eqPs]
  | x :: xs, [] => by simp [eqPs]
  | x :: xs, y :: ys => by
    have ih := eqPs_range xs ys
    have e : min (x :: xs).length (y :: ys).length = min xs.length ys.length + 1 := by simp only [List.length_cons]; omega
    rw [eqPs, ih, e, range_all_succ]
    have e0 : nthP (x :: xs) (y :: ys) 0 = eqP x y := rfl
    have e1 : (fun j => nthP (x :: xs) (y :: ys) (j + 1)) = nthP xs ys := by
      funext j
      simp [nthP]
    have e2 : ((x :: xs).length == (y :: ys).length) = (xs.length == ys.length) := by
      simp only [List.length_cons]
      by_cases h : xs.length = ys.length
      · simp [h]
      · have h' : ¬ (xs.length + 1 = ys.length + 1) := by omega
        simp [h, h']
    rw [e0, e1, e2, Bool.and_assoc]
theorem eqPs_len {xs ys : List D} (h : (xs.length != ys.length) = true) : eqPs xs ys = false := by
  rw [eqPs_range]
  have : (xs.length == ys.length) = false := by simpa using h
  rw [this, Bool.and_false]
theorem eqPs_same {xs ys : List D} (h : xs.length = ys.length) : eqPs xs ys = (List.range xs.length).all (nthP xs ys) := by
  rw [eqPs_range, h]
  simp
mutual
theorem RD.inj {pins : List (Addr × Obj)} {σ : St} {H : Hp} {s : Shared} (I : Inv X pins σ H s) : ∀ {n : Nat} {x y : D} {v : V}, shal n x = true → shal n y = true → RD X.K H x v → RD X.K H y v → x = y
  | _, _, _, _, _, _, .non, .non => rfl
  | _, _, _, _, _, _, .bl _, .bl _ => rfl
  | _, _, _, _, _, _, .int _, .int _ => rfl
  | _, _, _, _, _, _, .str _, .str _ => rfl
  | _, _, _, _, hx, _, .ty _, .ty _ => rfl
  | _, _, _, _, _, _, .ref _, .ref _ => rfl
  | n, _, _, _, hx, _, .ref _, .tup _ _ _ => by cases n <;> simp [shal] at hx
  | n, _, _, _, _, hy, .tup _ _ _, .ref _ => by cases n <;> simp [shal] at hy
  | 0, _, _, _, hx, _, .tup _ _ _, .tup _ _ _ => by simp [shal] at hx
  | n + 1, _, _, _, hx, hy, .tup h1 r1 _, .tup h2 r2 _ => by
    have e := I.tuple_inj h1 h2
    subst e
    rw [RDs.inj I (n := n) (by simpa [shal] using hx) (by simpa [shal] using hy) r1 r2]
theorem RDs.inj {pins : List (Addr × Obj)} {σ : St} {H : Hp} {s : Shared} (I : Inv X pins σ H s) : ∀ {n : Nat} {xs ys : List D} {vs : List V}, (∀ x ∈ xs, shal n x = true) → (∀ y ∈ ys, shal n y = true) → RDs X.K H xs vs → RDs X.K H ys vs → xs = ys
  | _, _, _, _, _, _, .nil, .nil => rfl
  | n, _, _, _, hx, hy, .cons h1 r1, .cons h2 r2 => by
    rw [RD.inj I (hx _ (by simp)) (hy _ (by simp)) h1 h2, RDs.inj I (fun x m => hx x (by simp [m])) (fun y m => hy y (by simp [m])) r1 r2]
end
mutual
theorem eqP_refl : ∀ {n : Nat} {x : D}, shal n x = true → eqP x x = true
  | _, .non, _ => rfl
  | _, .bl b, _ => by simp [eqP]
  | _, .int b, _ => by simp [eqP]
  | _, .str b, _ => by simp [eqP]
  | n, .ref _, h => by cases n <;> simp [shal] at h
  | n, .ty _, h => by cases n <;> simp [shal] at h
  | 0, .tup _, h => by simp [shal] at h
  | n + 1, .tup xs, h => by rw [eqP]; exact eqPs_refl (n := n) (by simpa [shal] using h)
theorem eqPs_refl : ∀ {n : Nat} {xs : List D}, (∀ x ∈ xs, shal n x = true) → eqPs xs xs = true
  | _, [], _ => rfl
  | n, x :: xs, h => by rw [eqPs, eqP_refl (h x (by simp)), eqPs_refl fun y m => h y (by simp [m])]; rfl
end
theorem Vals.rdGet {K : Fg} {H : Hp} {ds : List D} {xs : List V} {us : List Value} (r : RDs K H ds xs) (v : Vals xs us) {j : Nat} {u : Value} (e : us[j]? = some u) : ∃ d x, ds[j]? = some d ∧ RD K H d x ∧ RelV x u := by
  have hj : j < us.length := (List.getElem?_eq_some_iff.mp e).1
  have hj' : j < xs.length := by rw [v.length]; exact hj
  have ex : xs[j]? = some xs[j] := List.getElem?_eq_getElem hj'
  obtain ⟨u', e1, r1⟩ := v.get ex
  rw [e] at e1; cases e1
  obtain ⟨d, e2, r2⟩ := r.getV ex
  exact ⟨d, _, e2, r2, r1⟩
/-- items by items -/
theorem nth_eqAt {A : Around} {s : Shared} {K : Fg} {H : Hp} {n : Nat} {xs ys : List D} {vx vy : List V} {us ws : List Value} (rx : RDs K H xs vx) (ry : RDs K H ys vy) (vx' : Vals vx us) (vy' : Vals vy ws)
    (ih : ∀ x ∈ xs, ∀ y ∈ ys, ∀ (v w : V) (u t : Value), RD K H x v → RD K H y w → RelV v u → RelV w t → SeqAt.EqAt A s u t (eqP x y)) :
    ∀ j (h1 : j < us.toArray.size) (h2 : j < ws.toArray.size), SeqAt.EqAt A s us.toArray[j] ws.toArray[j] (nthP xs ys j) := by
  intro j h1 h2
  have e1 : us[j]? = some us.toArray[j] := by simp [List.getElem?_eq_getElem (show j < us.length by simpa using h1)]
  have e2 : ws[j]? = some ws.toArray[j] := by simp [List.getElem?_eq_getElem (show j < ws.length by simpa using h2)]
  obtain ⟨d, x, f1, f2, f3⟩ := Vals.rdGet rx vx' e1
  obtain ⟨d', y, g1, g2, g3⟩ := Vals.rdGet ry vy' e2
  have e : nthP xs ys j = eqP d d' := by simp [nthP, f1, g1]
  rw [e]
  exact ih d (List.mem_of_getElem? f1) d' (List.mem_of_getElem? g1) x y _ _ f2 g2 f3 g3
def scD : D → Bool
  | .non => true
  | .bl _ => true
  | .int _ => true
  | .str _ => true
  | _ => false
theorem eqAt_sc {A : Around} {s : Shared} {K : Fg} {H : Hp} {x y : D} {vx vy : V} {u v : Value} (hx : scD x = true) (hy : scD y = true) (rx : RD K H x vx) (ry : RD K H y vy) (ru : RelV vx u) (rv : RelV vy v) : SeqAt.EqAt A s u v (eqP x y) := by
  have fx : flatV vx = true := by cases rx <;> first | rfl | cases hx
  have fy : flatV vy = true := by cases ry <;> first | rfl | cases hy
  have e : eqV vx vy = eqP x y := by cases rx <;> cases ry <;> first | (simp [eqV, eqP]; done) | cases hx | cases hy
  rw [← e]
  exact eqAt_V ru rv fx fy
theorem cLine_le {A : Around} {n : Nat} (h : A.units + (n + 1) < cLine) : A.in1.units + n < cLine := by
  show A.units + 1 + n < cLine
  omega
theorem eqAt_D {pins : List (Addr × Obj)} {σ : St} {H : Hp} {s : Shared} (I : Inv X pins σ H s) : ∀ (n : Nat) (A : Around) (x y : D) (vx vy : V) (u v : Value), A.units + n < cLine → shal n x = true → shal n y = true → RD X.K H x vx → RD X.K H y vy → RelV vx u → RelV vy v → SeqAt.EqAt A s u v (eqP x y) := by
  intro n
  induction n with
  | zero =>
    intro A x y vx vy u v hu hx hy rx ry ru rv
    have sx : scD x = true := by cases x <;> first | rfl | (simp [shal] at hx)
    have sy : scD y = true := by cases y <;> first | rfl | (simp [shal] at hy)
    exact eqAt_sc sx sy rx ry ru rv
  | succ n ih =>
    intro A x y vx vy u v hu hx hy rx ry ru rv
    have hu0 : A.units < cLine := by omega
    cases rx with
    | @tup ax xs ds hax rax eax =>
      cases ru
      obtain ⟨its, vv, px, _⟩ := I.tuple hax
      cases ry with
      | @tup ay ys es hay ray eay =>
        cases rv
        obtain ⟨jts, ww, py, _⟩ := I.tuple hay
        by_cases hab : ax = ay
        · subst hab
          have e := RD.inj I (n := n + 1) hx hy (.tup hax rax eax) (.tup hay ray eay)
          rw [e, eqP_refl hy]
          exact SeqAt.EqAt.same _
        · refine SeqAt.EqAt.of_refs hab ?_
          have z := SeqAt.RcAt.tuples (e := nthP ds es) (show s.heap.IsTuple ax its.toArray from px) (show s.heap.IsTuple ay jts.toArray from py) hu0 (nth_eqAt (n := n) rax ray vv ww fun x mx y my v w u t r1 r2 r3 r4 =>
            ih A.in1 x y v w u t (cLine_le hu) (List.all_eq_true.mp (by simpa [shal] using hx) x mx) (List.all_eq_true.mp (by simpa [shal] using hy) y my) r1 r2 r3 r4)
          have e : ((List.range (min its.toArray.size jts.toArray.size)).all (nthP ds es) && its.toArray.size == jts.toArray.size) = eqP (.tup ds) (.tup es) := by
            rw [eqP, eqPs_range, List.size_toArray, List.size_toArray, ← vv.length, ← ww.length, ← rax.length, ← ray.length]
          rw [e] at z
          exact z
      | non => cases rv; exact SeqAt.EqAt.tuple_none (show s.heap.IsTuple ax its.toArray from px) hu0
      | bl b => cases rv; exact SeqAt.EqAt.tuple_bool b (show s.heap.IsTuple ax its.toArray from px) hu0
      | int i => obtain ⟨t, rfl⟩ := rv; exact SeqAt.EqAt.tuple_int i t (show s.heap.IsTuple ax its.toArray from px) hu0
      | str z => obtain ⟨t, rfl⟩ := rv; exact SeqAt.EqAt.tuple_str z t (show s.heap.IsTuple ax its.toArray from px) hu0
      | ref _ => simp [shal] at hy
      | ty _ => simp [shal] at hy
    | ref _ => simp [shal] at hx
    | ty _ => simp [shal] at hx
    | non =>
      cases ry with
      | @tup ay ys es hay ray =>
        cases rv; cases ru
        obtain ⟨jts, ww, py, _⟩ := I.tuple hay
        exact SeqAt.EqAt.none_tuple (show s.heap.IsTuple ay jts.toArray from py) hu0
      | ref _ => simp [shal] at hy
      | ty _ => simp [shal] at hy
      | _ => exact eqAt_V ru rv rfl rfl
    | bl b =>
      cases ry with
      | @tup ay ys es hay ray =>
        cases rv; cases ru
        obtain ⟨jts, ww, py, _⟩ := I.tuple hay
        exact SeqAt.EqAt.bool_tuple b (show s.heap.IsTuple ay jts.toArray from py) hu0
      | ref _ => simp [shal] at hy
      | ty _ => simp [shal] at hy
      | _ => exact eqAt_V ru rv rfl rfl
    | int i =>
      cases ry with
      | @tup ay ys es hay ray =>
        cases rv; obtain ⟨t, rfl⟩ := ru
        obtain ⟨jts, ww, py, _⟩ := I.tuple hay
        exact SeqAt.EqAt.int_tuple i t (show s.heap.IsTuple ay jts.toArray from py) hu0
      | ref _ => simp [shal] at hy
      | ty _ => simp [shal] at hy
      | _ => exact eqAt_V ru rv rfl rfl
    | str z =>
      cases ry with
      | @tup ay ys es hay ray =>
        cases rv; obtain ⟨t, rfl⟩ := ru
        obtain ⟨jts, ww, py, _⟩ := I.tuple hay
        exact SeqAt.EqAt.str_tuple z t (show s.heap.IsTuple ay jts.toArray from py) hu0
      | ref _ => simp [shal] at hy
      | ty _ => simp [shal] at hy
      | _ => exact eqAt_V ru rv rfl rfl
end
end L2
set_option Elab.async false
set_option linter.all false
set_option maxRecDepth 100000
set_option maxHeartbeats 4000000
namespace L2
open PySem PySem.Spec PyProof.Rows
section
variable {X : Cx}
theorem rc_D {pins : List (Addr × Obj)} {σ : St} {H : Hp} {s : Shared} (I : Inv X pins σ H s) (n : Nat) (A : Around) (x y : D) (vx vy : V) (u v : Value) (hu : A.units + (n + 1) < cLine) (hx : shal (n + 1) x = true) (hy : shal (n + 1) y = true) (rx : RD X.K H x vx) (ry : RD X.K H y vy) (ru : RelV vx u) (rv : RelV vy v) : SeqAt.RcAt A s u v (eqP x y) := by
  have hu0 : A.units < cLine := by omega
  cases rx with
  | non =>
    cases ru
    cases ry with
    | non =>
      cases rv
      first | exact SeqAt.RcAt.none_none | (simp only [eqP]; exact SeqAt.RcAt.none_none)
    | bl b2 =>
      cases rv
      first | exact SeqAt.RcAt.none_bool b2 | (simp only [eqP]; exact SeqAt.RcAt.none_bool b2)
    | int i2 =>
      obtain ⟨t2, rfl⟩ := rv
      first | exact SeqAt.RcAt.none_int i2 t2 | (simp only [eqP]; exact SeqAt.RcAt.none_int i2 t2)
    | str z2 =>
      obtain ⟨t2, rfl⟩ := rv
      first | exact SeqAt.RcAt.none_str z2 t2 | (simp only [eqP]; exact SeqAt.RcAt.none_str z2 t2)
    | @tup a2 xs2 ds2 h2 r2 =>
      cases rv
      obtain ⟨its2, vv2, p2, _⟩ := I.tuple h2
      first | exact SeqAt.RcAt.none_tuple (show s.heap.IsTuple a2 its2.toArray from p2) hu0 | (simp only [eqP]; exact SeqAt.RcAt.none_tuple (show s.heap.IsTuple a2 its2.toArray from p2) hu0)
    | ref _ => simp [shal] at hy
    | ty _ => simp [shal] at hy
  | bl b1 =>
    cases ru
    cases ry with
    | non =>
      cases rv
      first | exact SeqAt.RcAt.bool_none b1 | (simp only [eqP]; exact SeqAt.RcAt.bool_none b1)
    | bl b2 =>
      cases rv
      first | exact SeqAt.RcAt.bool_bool b1 b2 | (simp only [eqP]; exact SeqAt.RcAt.bool_bool b1 b2)
    | int i2 =>
      obtain ⟨t2, rfl⟩ := rv
      first | exact SeqAt.RcAt.bool_int b1 i2 t2 | (simp only [eqP]; exact SeqAt.RcAt.bool_int b1 i2 t2)
    | str z2 =>
      obtain ⟨t2, rfl⟩ := rv
      first | exact SeqAt.RcAt.bool_str b1 z2 t2 | (simp only [eqP]; exact SeqAt.RcAt.bool_str b1 z2 t2)
    | @tup a2 xs2 ds2 h2 r2 =>
      cases rv
      obtain ⟨its2, vv2, p2, _⟩ := I.tuple h2
      first | exact SeqAt.RcAt.bool_tuple b1 (show s.heap.IsTuple a2 its2.toArray from p2) hu0 | (simp only [eqP]; exact SeqAt.RcAt.bool_tuple b1 (show s.heap.IsTuple a2 its2.toArray from p2) hu0)
    | ref _ => simp [shal] at hy
    | ty _ => simp [shal] at hy
  | int i1 =>
    obtain ⟨t1, rfl⟩ := ru
    cases ry with
    | non =>
      cases rv
      first | exact SeqAt.RcAt.int_none i1 t1 | (simp only [eqP]; exact SeqAt.RcAt.int_none i1 t1)
    | bl b2 =>
      cases rv
      first | exact SeqAt.RcAt.int_bool i1 t1 b2 | (simp only [eqP]; exact SeqAt.RcAt.int_bool i1 t1 b2)
    | int i2 =>
      obtain ⟨t2, rfl⟩ := rv
      first | exact SeqAt.RcAt.int_int i1 t1 i2 t2 | (simp only [eqP]; exact SeqAt.RcAt.int_int i1 t1 i2 t2)
    | str z2 =>
      obtain ⟨t2, rfl⟩ := rv
      first | exact SeqAt.RcAt.int_str i1 t1 z2 t2 | (simp only [eqP]; exact SeqAt.RcAt.int_str i1 t1 z2 t2)
    | @tup a2 xs2 ds2 h2 r2 =>
      cases rv
      obtain ⟨its2, vv2, p2, _⟩ := I.tuple h2
      first | exact SeqAt.RcAt.int_tuple i1 t1 (show s.heap.IsTuple a2 its2.toArray from p2) hu0 | (simp only [eqP]; exact SeqAt.RcAt.int_tuple i1 t1 (show s.heap.IsTuple a2 its2.toArray from p2) hu0)
    | ref _ => simp [shal] at hy
    | ty _ => simp [shal] at hy
  | str z1 =>
    obtain ⟨t1, rfl⟩ := ru
    cases ry with
    | non =>
      cases rv
      first | exact SeqAt.RcAt.str_none z1 t1 | (simp only [eqP]; exact SeqAt.RcAt.str_none z1 t1)
    | bl b2 =>
      cases rv
      first | exact SeqAt.RcAt.str_bool z1 t1 b2 | (simp only [eqP]; exact SeqAt.RcAt.str_bool z1 t1 b2)
    | int i2 =>
      obtain ⟨t2, rfl⟩ := rv
      first | exact SeqAt.RcAt.str_int z1 t1 i2 t2 | (simp only [eqP]; exact SeqAt.RcAt.str_int z1 t1 i2 t2)
    | str z2 =>
      obtain ⟨t2, rfl⟩ := rv
      first | exact SeqAt.RcAt.str_str z1 t1 z2 t2 | (simp only [eqP]; exact SeqAt.RcAt.str_str z1 t1 z2 t2)
    | @tup a2 xs2 ds2 h2 r2 =>
      cases rv
      obtain ⟨its2, vv2, p2, _⟩ := I.tuple h2
      first | exact SeqAt.RcAt.str_tuple z1 t1 (show s.heap.IsTuple a2 its2.toArray from p2) hu0 | (simp only [eqP]; exact SeqAt.RcAt.str_tuple z1 t1 (show s.heap.IsTuple a2 its2.toArray from p2) hu0)
    | ref _ => simp [shal] at hy
    | ty _ => simp [shal] at hy
  | @tup a1 xs1 ds1 h1 r1 =>
    cases ru
    obtain ⟨its1, vv1, p1, _⟩ := I.tuple h1
    cases ry with
    | non =>
      cases rv
      first | exact SeqAt.RcAt.tuple_none (show s.heap.IsTuple a1 its1.toArray from p1) hu0 | (simp only [eqP]; exact SeqAt.RcAt.tuple_none (show s.heap.IsTuple a1 its1.toArray from p1) hu0)
    | bl b2 =>
      cases rv
      first | exact SeqAt.RcAt.tuple_bool b2 (show s.heap.IsTuple a1 its1.toArray from p1) hu0 | (simp only [eqP]; exact SeqAt.RcAt.tuple_bool b2 (show s.heap.IsTuple a1 its1.toArray from p1) hu0)
    | int i2 =>
      obtain ⟨t2, rfl⟩ := rv
      first | exact SeqAt.RcAt.tuple_int i2 t2 (show s.heap.IsTuple a1 its1.toArray from p1) hu0 | (simp only [eqP]; exact SeqAt.RcAt.tuple_int i2 t2 (show s.heap.IsTuple a1 its1.toArray from p1) hu0)
    | str z2 =>
      obtain ⟨t2, rfl⟩ := rv
      first | exact SeqAt.RcAt.tuple_str z2 t2 (show s.heap.IsTuple a1 its1.toArray from p1) hu0 | (simp only [eqP]; exact SeqAt.RcAt.tuple_str z2 t2 (show s.heap.IsTuple a1 its1.toArray from p1) hu0)
    | @tup a2 xs2 ds2 h2 r2 =>
      cases rv
      obtain ⟨its2, vv2, p2, _⟩ := I.tuple h2
      have z := SeqAt.RcAt.tuples (e := nthP ds1 ds2) (show s.heap.IsTuple a1 its1.toArray from p1) (show s.heap.IsTuple a2 its2.toArray from p2) hu0 (nth_eqAt (n := n) r1 r2 vv1 vv2 fun x mx y my v w u t q1 q2 q3 q4 =>
            eqAt_D I n A.in1 x y v w u t (cLine_le hu) (List.all_eq_true.mp (by simpa [shal] using hx) x mx) (List.all_eq_true.mp (by simpa [shal] using hy) y my) q1 q2 q3 q4)
      have e : ((List.range (min its1.toArray.size its2.toArray.size)).all (nthP ds1 ds2) && its1.toArray.size == its2.toArray.size) = eqP (.tup ds1) (.tup ds2) := by
        rw [eqP, eqPs_range, List.size_toArray, List.size_toArray, ← vv1.length, ← vv2.length, ← r1.length, ← r2.length]
      rw [e] at z
      exact z
    | ref _ => simp [shal] at hy
    | ty _ => simp [shal] at hy
  | ref _ => simp [shal] at hx
  | ty _ => simp [shal] at hx
theorem rcL1 {pins : List (Addr × Obj)} {σ : St} {H : Hp} {s : Shared} (I : Inv X pins σ H s) (n : Nat) (A : Around) {a1 : Addr} {xs : List V} (hl : SqL X.K H a1 xs) (y : D) (vy : V) (v : Value) (hu0 : A.units < cLine) (hy : shal n y = true) (ry : RD X.K H y vy) (rv : RelV vy v) : SeqAt.RcAt A s (.ref a1) v false := by
  obtain ⟨its1, vv1, pl, _⟩ := I.list hl
  have p1 := pl.isList
  cases ry with
  | non =>
    cases rv
    exact SeqAt.RcAt.list_none p1 hu0
  | bl b2 =>
    cases rv
    exact SeqAt.RcAt.list_bool b2 p1 hu0
  | int i2 =>
    obtain ⟨t2, rfl⟩ := rv
    exact SeqAt.RcAt.list_int i2 t2 p1 hu0
  | str z2 =>
    obtain ⟨t2, rfl⟩ := rv
    exact SeqAt.RcAt.list_str z2 t2 p1 hu0
  | @tup a2 xs2 ds2 h2 r2 =>
    cases rv
    obtain ⟨its2, vv2, p2, _⟩ := I.tuple h2
    exact SeqAt.RcAt.list_tuple (show s.heap.IsList a1 its1.toArray from p1) (show s.heap.IsTuple a2 its2.toArray from p2) hu0
  | ref _ => cases n <;> simp [shal] at hy
  | ty _ => cases n <;> simp [shal] at hy
theorem rcL2 {pins : List (Addr × Obj)} {σ : St} {H : Hp} {s : Shared} (I : Inv X pins σ H s) (n : Nat) (A : Around) {a2 : Addr} {xs : List V} (hl : SqL X.K H a2 xs) (y : D) (vy : V) (v : Value) (hu0 : A.units < cLine) (hy : shal n y = true) (ry : RD X.K H y vy) (rv : RelV vy v) : SeqAt.RcAt A s v (.ref a2) false := by
  obtain ⟨its2, vv2, pl, _⟩ := I.list hl
  have p2 := pl.isList
  cases ry with
  | non =>
    cases rv
    exact SeqAt.RcAt.none_list p2 hu0
  | bl b1 =>
    cases rv
    exact SeqAt.RcAt.bool_list b1 p2 hu0
  | int i1 =>
    obtain ⟨t1, rfl⟩ := rv
    exact SeqAt.RcAt.int_list i1 t1 p2 hu0
  | str z1 =>
    obtain ⟨t1, rfl⟩ := rv
    exact SeqAt.RcAt.str_list z1 t1 p2 hu0
  | @tup a1 xs1 ds1 h1 r1 =>
    cases rv
    obtain ⟨its1, vv1, p1, _⟩ := I.tuple h1
    exact SeqAt.RcAt.tuple_list (show s.heap.IsTuple a1 its1.toArray from p1) (show s.heap.IsList a2 its2.toArray from p2) hu0
  | ref _ => cases n <;> simp [shal] at hy
  | ty _ => cases n <;> simp [shal] at hy
theorem rcLL {pins : List (Addr × Obj)} {σ : St} {H : Hp} {s : Shared} (I : Inv X pins σ H s) (n : Nat) (A : Around) {a1 a2 : Addr} {xs1 xs2 : List V} {ds1 ds2 : List D} (h1 : SqL X.K H a1 xs1) (h2 : SqL X.K H a2 xs2) (r1 : RDs X.K H ds1 xs1) (r2 : RDs X.K H ds2 xs2)
    (hu : A.units + (n + 1) < cLine) (hx : ds1.all (shal n) = true) (hy : ds2.all (shal n) = true) : SeqAt.RcAt A s (.ref a1) (.ref a2) (eqPs ds1 ds2) := by
  have hu0 : A.units < cLine := by omega
  obtain ⟨its1, vv1, q1, _⟩ := I.list h1
  obtain ⟨its2, vv2, q2, _⟩ := I.list h2
  have p1 := q1.isList
  have p2 := q2.isList
  by_cases hl : ds1.length = ds2.length
  · have hsz : its1.toArray.size = its2.toArray.size := by rw [List.size_toArray, List.size_toArray, ← vv1.length, ← vv2.length, ← r1.length, ← r2.length]; exact hl
    have z := SeqAt.RcAt.lists (e := nthP ds1 ds2) p1 p2 hsz hu0 (nth_eqAt (n := n) r1 r2 vv1 vv2 fun x mx y my v w u t q1 q2 q3 q4 =>
            eqAt_D I n A.in1 x y v w u t (cLine_le hu) (List.all_eq_true.mp hx x mx) (List.all_eq_true.mp hy y my) q1 q2 q3 q4)
    have e : (List.range its1.toArray.size).all (nthP ds1 ds2) = eqPs ds1 ds2 := by rw [eqPs_same hl, List.size_toArray, ← vv1.length, ← r1.length]
    rw [e] at z
    exact z
  · have hne : (its1.toArray.size != its2.toArray.size) = true := by rw [List.size_toArray, List.size_toArray, ← vv1.length, ← vv2.length, ← r1.length, ← r2.length]; simpa using hl
    have e : eqPs ds1 ds2 = false := eqPs_len (by simpa using hl)
    rw [e]
    exact SeqAt.RcAt.lists_lengths p1 p2 hne hu0
theorem rcNe_D {pins : List (Addr × Obj)} {σ : St} {H : Hp} {s : Shared} (I : Inv X pins σ H s) (n : Nat) (A : Around) (x y : D) (vx vy : V) (u v : Value) (hu : A.units + (n + 1) < cLine) (hx : shal (n + 1) x = true) (hy : shal (n + 1) y = true) (rx : RD X.K H x vx) (ry : RD X.K H y vy) (ru : RelV vx u) (rv : RelV vy v) : SeqAt.RcNeAt A s u v (!eqP x y) := by
  have hu0 : A.units < cLine := by omega
  cases rx with
  | non =>
    cases ru
    cases ry with
    | non =>
      cases rv
      first | exact SeqAt.RcNeAt.none_none | (simp only [eqP]; exact SeqAt.RcNeAt.none_none)
    | bl b2 =>
      cases rv
      first | exact SeqAt.RcNeAt.none_bool b2 | (simp only [eqP]; exact SeqAt.RcNeAt.none_bool b2)
    | int i2 =>
      obtain ⟨t2, rfl⟩ := rv
      first | exact SeqAt.RcNeAt.none_int i2 t2 | (simp only [eqP]; exact SeqAt.RcNeAt.none_int i2 t2)
    | str z2 =>
      obtain ⟨t2, rfl⟩ := rv
      first | exact SeqAt.RcNeAt.none_str z2 t2 | (simp only [eqP]; exact SeqAt.RcNeAt.none_str z2 t2)
    | @tup a2 xs2 ds2 h2 r2 =>
      cases rv
      obtain ⟨its2, vv2, p2, _⟩ := I.tuple h2
      first | exact SeqAt.RcNeAt.none_tuple (show s.heap.IsTuple a2 its2.toArray from p2) hu0 | (simp only [eqP]; exact SeqAt.RcNeAt.none_tuple (show s.heap.IsTuple a2 its2.toArray from p2) hu0)
    | ref _ => simp [shal] at hy
    | ty _ => simp [shal] at hy
  | bl b1 =>
    cases ru
    cases ry with
    | non =>
      cases rv
      first | exact SeqAt.RcNeAt.bool_none b1 | (simp only [eqP]; exact SeqAt.RcNeAt.bool_none b1)
    | bl b2 =>
      cases rv
      first | exact SeqAt.RcNeAt.bool_bool b1 b2 | (simp only [eqP]; exact SeqAt.RcNeAt.bool_bool b1 b2)
    | int i2 =>
      obtain ⟨t2, rfl⟩ := rv
      first | exact SeqAt.RcNeAt.bool_int b1 i2 t2 | (simp only [eqP]; exact SeqAt.RcNeAt.bool_int b1 i2 t2)
    | str z2 =>
      obtain ⟨t2, rfl⟩ := rv
      first | exact SeqAt.RcNeAt.bool_str b1 z2 t2 | (simp only [eqP]; exact SeqAt.RcNeAt.bool_str b1 z2 t2)
    | @tup a2 xs2 ds2 h2 r2 =>
      cases rv
      obtain ⟨its2, vv2, p2, _⟩ := I.tuple h2
      first | exact SeqAt.RcNeAt.bool_tuple b1 (show s.heap.IsTuple a2 its2.toArray from p2) hu0 | (simp only [eqP]; exact SeqAt.RcNeAt.bool_tuple b1 (show s.heap.IsTuple a2 its2.toArray from p2) hu0)
    | ref _ => simp [shal] at hy
    | ty _ => simp [shal] at hy
  | int i1 =>
    obtain ⟨t1, rfl⟩ := ru
    cases ry with
    | non =>
      cases rv
      first | exact SeqAt.RcNeAt.int_none i1 t1 | (simp only [eqP]; exact SeqAt.RcNeAt.int_none i1 t1)
    | bl b2 =>
      cases rv
      first | exact SeqAt.RcNeAt.int_bool i1 t1 b2 | (simp only [eqP]; exact SeqAt.RcNeAt.int_bool i1 t1 b2)
    | int i2 =>
      obtain ⟨t2, rfl⟩ := rv
      first | exact SeqAt.RcNeAt.int_int i1 t1 i2 t2 | (simp only [eqP]; exact SeqAt.RcNeAt.int_int i1 t1 i2 t2)
    | str z2 =>
      obtain ⟨t2, rfl⟩ := rv
      first | exact SeqAt.RcNeAt.int_str i1 t1 z2 t2 | (simp only [eqP]; exact SeqAt.RcNeAt.int_str i1 t1 z2 t2)
    | @tup a2 xs2 ds2 h2 r2 =>
      cases rv
      obtain ⟨its2, vv2, p2, _⟩ := I.tuple h2
      first | exact SeqAt.RcNeAt.int_tuple i1 t1 (show s.heap.IsTuple a2 its2.toArray from p2) hu0 | (simp only [eqP]; exact SeqAt.RcNeAt.int_tuple i1 t1 (show s.heap.IsTuple a2 its2.toArray from p2) hu0)
    | ref _ => simp [shal] at hy
    | ty _ => simp [shal] at hy
  | str z1 =>
    obtain ⟨t1, rfl⟩ := ru
    cases ry with
    | non =>
      cases rv
      first | exact SeqAt.RcNeAt.str_none z1 t1 | (simp only [eqP]; exact SeqAt.RcNeAt.str_none z1 t1)
    | bl b2 =>
      cases rv
      first | exact SeqAt.RcNeAt.str_bool z1 t1 b2 | (simp only [eqP]; exact SeqAt.RcNeAt.str_bool z1 t1 b2)
    | int i2 =>
      obtain ⟨t2, rfl⟩ := rv
      first | exact SeqAt.RcNeAt.str_int z1 t1 i2 t2 | (simp only [eqP]; exact SeqAt.RcNeAt.str_int z1 t1 i2 t2)
    | str z2 =>
      obtain ⟨t2, rfl⟩ := rv
      first | exact SeqAt.RcNeAt.str_str z1 t1 z2 t2 | (simp only [eqP]; exact SeqAt.RcNeAt.str_str z1 t1 z2 t2)
    | @tup a2 xs2 ds2 h2 r2 =>
      cases rv
      obtain ⟨its2, vv2, p2, _⟩ := I.tuple h2
      first | exact SeqAt.RcNeAt.str_tuple z1 t1 (show s.heap.IsTuple a2 its2.toArray from p2) hu0 | (simp only [eqP]; exact SeqAt.RcNeAt.str_tuple z1 t1 (show s.heap.IsTuple a2 its2.toArray from p2) hu0)
    | ref _ => simp [shal] at hy
    | ty _ => simp [shal] at hy
  | @tup a1 xs1 ds1 h1 r1 =>
    cases ru
    obtain ⟨its1, vv1, p1, _⟩ := I.tuple h1
    cases ry with
    | non =>
      cases rv
      first | exact SeqAt.RcNeAt.tuple_none (show s.heap.IsTuple a1 its1.toArray from p1) hu0 | (simp only [eqP]; exact SeqAt.RcNeAt.tuple_none (show s.heap.IsTuple a1 its1.toArray from p1) hu0)
    | bl b2 =>
      cases rv
      first | exact SeqAt.RcNeAt.tuple_bool b2 (show s.heap.IsTuple a1 its1.toArray from p1) hu0 | (simp only [eqP]; exact SeqAt.RcNeAt.tuple_bool b2 (show s.heap.IsTuple a1 its1.toArray from p1) hu0)
    | int i2 =>
      obtain ⟨t2, rfl⟩ := rv
      first | exact SeqAt.RcNeAt.tuple_int i2 t2 (show s.heap.IsTuple a1 its1.toArray from p1) hu0 | (simp only [eqP]; exact SeqAt.RcNeAt.tuple_int i2 t2 (show s.heap.IsTuple a1 its1.toArray from p1) hu0)
    | str z2 =>
      obtain ⟨t2, rfl⟩ := rv
      first | exact SeqAt.RcNeAt.tuple_str z2 t2 (show s.heap.IsTuple a1 its1.toArray from p1) hu0 | (simp only [eqP]; exact SeqAt.RcNeAt.tuple_str z2 t2 (show s.heap.IsTuple a1 its1.toArray from p1) hu0)
    | @tup a2 xs2 ds2 h2 r2 =>
      cases rv
      obtain ⟨its2, vv2, p2, _⟩ := I.tuple h2
      have z := SeqAt.RcNeAt.tuples (e := nthP ds1 ds2) (show s.heap.IsTuple a1 its1.toArray from p1) (show s.heap.IsTuple a2 its2.toArray from p2) hu0 (nth_eqAt (n := n) r1 r2 vv1 vv2 fun x mx y my v w u t q1 q2 q3 q4 =>
            eqAt_D I n A.in1 x y v w u t (cLine_le hu) (List.all_eq_true.mp (by simpa [shal] using hx) x mx) (List.all_eq_true.mp (by simpa [shal] using hy) y my) q1 q2 q3 q4)
      have e : ((List.range (min its1.toArray.size its2.toArray.size)).all (nthP ds1 ds2) && its1.toArray.size == its2.toArray.size) = eqP (.tup ds1) (.tup ds2) := by
        rw [eqP, eqPs_range, List.size_toArray, List.size_toArray, ← vv1.length, ← vv2.length, ← r1.length, ← r2.length]
      rw [e] at z
      exact z
    | ref _ => simp [shal] at hy
    | ty _ => simp [shal] at hy
  | ref _ => simp [shal] at hx
  | ty _ => simp [shal] at hx
theorem rcNeL1 {pins : List (Addr × Obj)} {σ : St} {H : Hp} {s : Shared} (I : Inv X pins σ H s) (n : Nat) (A : Around) {a1 : Addr} {xs : List V} (hl : SqL X.K H a1 xs) (y : D) (vy : V) (v : Value) (hu0 : A.units < cLine) (hy : shal n y = true) (ry : RD X.K H y vy) (rv : RelV vy v) : SeqAt.RcNeAt A s (.ref a1) v true := by
  obtain ⟨its1, vv1, pl, _⟩ := I.list hl
  have p1 := pl.isList
  cases ry with
  | non =>
    cases rv
    exact SeqAt.RcNeAt.list_none p1 hu0
  | bl b2 =>
    cases rv
    exact SeqAt.RcNeAt.list_bool b2 p1 hu0
  | int i2 =>
    obtain ⟨t2, rfl⟩ := rv
    exact SeqAt.RcNeAt.list_int i2 t2 p1 hu0
  | str z2 =>
    obtain ⟨t2, rfl⟩ := rv
    exact SeqAt.RcNeAt.list_str z2 t2 p1 hu0
  | @tup a2 xs2 ds2 h2 r2 =>
    cases rv
    obtain ⟨its2, vv2, p2, _⟩ := I.tuple h2
    exact SeqAt.RcNeAt.list_tuple (show s.heap.IsList a1 its1.toArray from p1) (show s.heap.IsTuple a2 its2.toArray from p2) hu0
  | ref _ => cases n <;> simp [shal] at hy
  | ty _ => cases n <;> simp [shal] at hy
theorem rcNeL2 {pins : List (Addr × Obj)} {σ : St} {H : Hp} {s : Shared} (I : Inv X pins σ H s) (n : Nat) (A : Around) {a2 : Addr} {xs : List V} (hl : SqL X.K H a2 xs) (y : D) (vy : V) (v : Value) (hu0 : A.units < cLine) (hy : shal n y = true) (ry : RD X.K H y vy) (rv : RelV vy v) : SeqAt.RcNeAt A s v (.ref a2) true := by
  obtain ⟨its2, vv2, pl, _⟩ := I.list hl
  have p2 := pl.isList
  cases ry with
  | non =>
    cases rv
    exact SeqAt.RcNeAt.none_list p2 hu0
  | bl b1 =>
    cases rv
    exact SeqAt.RcNeAt.bool_list b1 p2 hu0
  | int i1 =>
    obtain ⟨t1, rfl⟩ := rv
    exact SeqAt.RcNeAt.int_list i1 t1 p2 hu0
  | str z1 =>
    obtain ⟨t1, rfl⟩ := rv
    exact SeqAt.RcNeAt.str_list z1 t1 p2 hu0
  | @tup a1 xs1 ds1 h1 r1 =>
    cases rv
    obtain ⟨its1, vv1, p1, _⟩ := I.tuple h1
    exact SeqAt.RcNeAt.tuple_list (show s.heap.IsTuple a1 its1.toArray from p1) (show s.heap.IsList a2 its2.toArray from p2) hu0
  | ref _ => cases n <;> simp [shal] at hy
  | ty _ => cases n <;> simp [shal] at hy
theorem rcNeLL {pins : List (Addr × Obj)} {σ : St} {H : Hp} {s : Shared} (I : Inv X pins σ H s) (n : Nat) (A : Around) {a1 a2 : Addr} {xs1 xs2 : List V} {ds1 ds2 : List D} (h1 : SqL X.K H a1 xs1) (h2 : SqL X.K H a2 xs2) (r1 : RDs X.K H ds1 xs1) (r2 : RDs X.K H ds2 xs2)
    (hu : A.units + (n + 1) < cLine) (hx : ds1.all (shal n) = true) (hy : ds2.all (shal n) = true) : SeqAt.RcNeAt A s (.ref a1) (.ref a2) (!eqPs ds1 ds2) := by
  have hu0 : A.units < cLine := by omega
  obtain ⟨its1, vv1, q1, _⟩ := I.list h1
  obtain ⟨its2, vv2, q2, _⟩ := I.list h2
  have p1 := q1.isList
  have p2 := q2.isList
  by_cases hl : ds1.length = ds2.length
  · have hsz : its1.toArray.size = its2.toArray.size := by rw [List.size_toArray, List.size_toArray, ← vv1.length, ← vv2.length, ← r1.length, ← r2.length]; exact hl
    have z := SeqAt.RcNeAt.lists (e := nthP ds1 ds2) p1 p2 hsz hu0 (nth_eqAt (n := n) r1 r2 vv1 vv2 fun x mx y my v w u t q1 q2 q3 q4 =>
            eqAt_D I n A.in1 x y v w u t (cLine_le hu) (List.all_eq_true.mp hx x mx) (List.all_eq_true.mp hy y my) q1 q2 q3 q4)
    have e : (List.range its1.toArray.size).all (nthP ds1 ds2) = eqPs ds1 ds2 := by rw [eqPs_same hl, List.size_toArray, ← vv1.length, ← r1.length]
    rw [e] at z
    exact z
  · have hne : (its1.toArray.size != its2.toArray.size) = true := by rw [List.size_toArray, List.size_toArray, ← vv1.length, ← vv2.length, ← r1.length, ← r2.length]; simpa using hl
    have e : eqPs ds1 ds2 = false := eqPs_len (by simpa using hl)
    rw [e]
    exact SeqAt.RcNeAt.lists_lengths p1 p2 hne hu0
/-! ### ==, != of what is known -/
def eqG (G : Gp) (x y : D) (k : Bool → Prop) : Prop := match x, y with
  | .ref a, .ref b => (match lsOf G a, lsOf G b with
    | some xs, some ys => xs.all (shal 20) = true ∧ ys.all (shal 20) = true ∧ k (eqPs xs ys)
    | _, _ => False)
  | .ref a, y => (match lsOf G a with
    | some _ => shal 20 y = true ∧ k false
    | none => False)
  | x, .ref b => (match lsOf G b with
    | some _ => shal 20 x = true ∧ k false
    | none => False)
  | x, y => shal 20 x = true ∧ shal 20 y = true ∧ k (eqP x y)
def rEq3 : R3 := fun x y G R => eqG G x y fun b => R (.bl b) G
def rNe3 : R3 := fun x y G R => eqG G x y fun b => R (.bl (!b)) G
theorem opC_of {f : Value → Value → Sem Value} {r3 : R3} (h : ∀ (pins : List (Addr × Obj)) (s : Shared) (σ : St) (H : Hp) (x y : D) (vx vy : V) (u v : Value) (G : Gp) (R : VK3) (Q : VK), Inv X pins σ H s → RD X.K H x vx → RD X.K H y vy → RelV vx u → RelV vy v → HR X.K H G → r3 x y G R →
      (∀ w H' d G', Ts H H' → RD X.K H' d w → HR X.K H' G' → R d G' → Q w H') → wpAny (model X.prog X.w) X.A (f u v) (EP X pins σ Q) X.xe s) : OpC3 X f r3 :=
  ⟨fun vx vy H Q => ∃ x y G R, RD X.K H x vx ∧ RD X.K H y vy ∧ HR X.K H G ∧ r3 x y G R ∧ ∀ w H' d G', Ts H H' → RD X.K H' d w → HR X.K H' G' → R d G' → Q w H',
    fun pins s σ H vx vy u v Q I ru rv ⟨x, y, G, R, rx, ry, g, q, k⟩ => h pins s σ H x y vx vy u v G R Q I rx ry ru rv g q k, fun H x y vx vy G R Q rx ry g q k => ⟨x, y, G, R, rx, ry, g, q, k⟩⟩
theorem eqG_run (hu : X.A.units + 64 < cLine) {neg : Bool} {op : CmpOp} (hop : op = if neg then .NotEq else .Eq) {pins : List (Addr × Obj)} {s : Shared} {σ : St} {H : Hp} {x y : D} {vx vy : V} {u v : Value} {G : Gp} {k : Bool → Prop} {Q : VK} (I : Inv X pins σ H s) (rx : RD X.K H x vx) (ry : RD X.K H y vy) (ru : RelV vx u) (rv : RelV vy v) (g : HR X.K H G)
    (h : eqG G x y k) (hk : ∀ b, k b → EP X pins σ Q (.bool (neg ^^ b)) s) : wpAny (model X.prog X.w) X.A (compareOp op u v) (EP X pins σ Q) X.xe s := by
  have fin : ∀ {b : Bool}, (if neg then SeqAt.RcNeAt X.A s u v (!b) else SeqAt.RcAt X.A s u v b) → k b → wpAny (model X.prog X.w) X.A (compareOp op u v) (EP X pins σ Q) X.xe s := fun {b} z kb => by
    have e := hk b kb
    cases neg with
    | true =>
      subst hop
      rw [Bool.true_xor] at e
      exact z X.prog X.w X.xe _ e
    | false =>
      subst hop
      rw [Bool.false_xor] at e
      exact z X.prog X.w X.xe _ e
  have hu1 : X.A.units + (20 + 1) < cLine := by omega
  have hu2 : X.A.units + (19 + 1) < cLine := by omega
  have hu0 : X.A.units < cLine := by omega
  have plain : shal 20 x = true → shal 20 y = true → k (eqP x y) → wpAny (model X.prog X.w) X.A (compareOp op u v) (EP X pins σ Q) X.xe s := fun hx hy kk => fin (b := eqP x y) (by
    cases neg with
    | true => exact rcNe_D I 19 X.A x y vx vy u v hu2 hx hy rx ry ru rv
    | false => exact rc_D I 19 X.A x y vx vy u v hu2 hx hy rx ry ru rv) kk
  have left : ∀ a xs, x = .ref a → lsOf G a = some xs → shal 20 y = true → k false → wpAny (model X.prog X.w) X.A (compareOp op u v) (EP X pins σ Q) X.xe s := fun a xs e1 e2 hy kk => by
    subst e1
    cases rx
    cases ru
    obtain ⟨zs, hz, _⟩ := lsOf_sq g e2
    refine fin (b := false) ?_ kk
    cases neg with
    | true => exact rcNeL1 I 20 X.A hz y vy v hu0 hy ry rv
    | false => exact rcL1 I 20 X.A hz y vy v hu0 hy ry rv
  have right : ∀ a xs, y = .ref a → lsOf G a = some xs → shal 20 x = true → k false → wpAny (model X.prog X.w) X.A (compareOp op u v) (EP X pins σ Q) X.xe s := fun a xs e1 e2 hy kk => by
    subst e1
    cases ry
    cases rv
    obtain ⟨zs, hz, _⟩ := lsOf_sq g e2
    refine fin (b := false) ?_ kk
    cases neg with
    | true => exact rcNeL2 I 20 X.A hz x vx u hu0 hy rx ru
    | false => exact rcL2 I 20 X.A hz x vx u hu0 hy rx ru
  unfold eqG at h
  split at h
  · rename_i a b
    split at h
    · rename_i xs ys e1 e2
      cases rx; cases ry; cases ru; cases rv
      obtain ⟨zs1, hz1, q1⟩ := lsOf_sq g e1
      obtain ⟨zs2, hz2, q2⟩ := lsOf_sq g e2
      refine fin (b := eqPs xs ys) ?_ h.2.2
      cases neg with
      | true => exact rcNeLL I 20 X.A hz1 hz2 q1 q2 hu1 h.1 h.2.1
      | false => exact rcLL I 20 X.A hz1 hz2 q1 q2 hu1 h.1 h.2.1
    · exact h.elim
  · rename_i a _
    split at h
    · rename_i xs e1
      exact left a xs rfl e1 h.1 h.2
    · exact h.elim
  · rename_i b _
    split at h
    · rename_i xs e1
      exact right b xs rfl e1 h.1 h.2
    · exact h.elim
  · exact plain h.1 h.2.1 h.2.2
theorem o_eq (hu : X.A.units + 64 < cLine) : OpC3 X (compareOp .Eq) rEq3 := opC_of fun pins s σ H x y vx vy u v G R Q I rx ry ru rv g q k =>
  eqG_run (neg := false) hu rfl I rx ry ru rv g q fun b kb => ⟨.bl b, H, I, by rw [Bool.false_xor]; rfl, k _ H (.bl b) G (.refl H) (.bl b) g kb⟩
theorem o_ne (hu : X.A.units + 64 < cLine) : OpC3 X (compareOp .NotEq) rNe3 := opC_of fun pins s σ H x y vx vy u v G R Q I rx ry ru rv g q k =>
  eqG_run (neg := true) hu rfl I rx ry ru rv g q fun b kb => ⟨.bl (!b), H, I, by rw [Bool.true_xor]; rfl, k _ H (.bl (!b)) G (.refl H) (.bl (!b)) g kb⟩
end
end L2
set_option Elab.async false
set_option linter.all false
set_option maxRecDepth 100000
set_option maxHeartbeats 4000000
namespace L2
open PySem PySem.Spec PyProof.Rows PySem.W PySem.Calls
open PySem.Builtin PySem.Builtin.ObjectAttr PySem.Builtin.Getset_descriptor
section
variable {prog : Program} {w : World} {A : Around} {E : Value → Shared → Prop} {s : Shared} {K : Fg} {x C : Addr} {o : Obj}
theorem exc_class_get {tp : Value} {R : Result → Shared → Prop} (X : K.In s.heap) (hx : s.heap.get? x = some o) (hc : o.cls = .ref C) (hm : mroIn K C (.type "object") = some true)
    (h : R (.ok (.ret (.ref C))) s) : codeAny (model prog w) A (.call (.builtin "getset_descriptor.__get__") ⟨[.builtin "object.__class__", .ref x, tp], []⟩) R s := by
  obtain ⟨hh, g, dr, t, os⟩ := s
  have L0 : Looks (model prog w) hh (typeOf (.ref x)) (.ref C) := hc ▸ (Looks.ld hx).andThen .now
  have L1 := looks_mroIn (M := model prog w) X hm
  refine codeAny_call_builtin KF.slot_gs.plain KF.entry_gs (KF.slot_gs.check _ _ _ _ _ _ _ _ KF.type_class (KF.args_gs _ _ _) ?_)
  unfold Builtin.«getset_descriptor.__get__» descrGet
  rw [dga_obj]
  refine wpAny_bind (wpAny_pure ?_)
  unfold descrGetter descrCheckInstance descrNameAndClass isInstance
  simp only [KF.owner_class]
  repeat lk
  refine ⟨Code.quiet_builtin _ (by decide +kernel), codeAny_builtin KF.entry_class ?_⟩
  unfold Builtin.«object.__class__» shownTypeOf
  repeat lk
  exact h
theorem exn_class {Q : Option Value → Shared → Prop} (X : K.In s.heap) (hx : s.heap.get? x = some o) (hc : o.cls = .ref C)
    (hga : findIn K (.ref C) "__getattribute__" = some (some (.builtin "BaseException.__getattribute__"))) (hgn : findIn K (.ref C) "__getattr__" = some none) (ha : findIn K (.ref C) "__class__" = some (some (.builtin "object.__class__")))
    (hb : subIn K (.ref C) (.type "BaseException") = some true) (hm : mroIn K C (.type "object") = some true) (h : Q (some (.ref C)) { s with toks := s.toks + 1 }) : wpAny (model prog w) A (getAttr? (.ref x) "__class__") Q E s := by
  obtain ⟨hh, g, d, t, os⟩ := s
  have L0 : Looks (model prog w) hh (typeOf (.ref x)) (.ref C) := hc ▸ (Looks.ld hx).andThen .now
  have L1 := looks_findIn (M := model prog w) X hga
  have L2' := looks_findIn (M := model prog w) X hgn
  have L3 := looks_findIn (M := model prog w) X ha
  have L4 := looks_subIn (M := model prog w) X hb
  unfold getAttr? getAttrBy? getAttrBy
  refine wpAny_bind (wpAny_mkText (wpAny_bind (wpAny_attempt (wpAny_holding (wpAny_bind (L0.at (wpAny_bind (L1.at ?_))))))))
  have hx2 : (Value.builtin "BaseException.__getattribute__" == Value.builtin "object.__getattribute__") = false := by decide +kernel
  have f3 := PySem.F.attr_ValueError.ga.bind (.ref x)
  have hk : builtinKind "BaseException.__getattribute__" = some .slot := by decide +kernel
  have hsplit : splitId "BaseException.__getattribute__" = some ("BaseException", "__getattribute__") := by decide +kernel
  have ha2 := PySem.F.args_bexc_ga (.ref x) (.str "__class__" t)
  repeat (first | with_reducible refine L0.at ?_ | with_reducible refine L1.at ?_ | with_reducible refine L2'.at ?_ | with_reducible refine L3.at ?_ | with_reducible refine L4.at ?_ | wp_step)
  refine codeAny_call_builtin PySem.F.attr_ValueError.ga.plain PySem.F.entry_bexc_ga ?_
  simp only [checkBuiltinCall, hk, hsplit]
  unfold isInstance
  have f5 := PySem.F.typeOf_object_class
  have f6 := PySem.F.slot_gs_get.lookup
  have f7 := PySem.F.slot_gs_set.lookup
  repeat (any_goals (first | assumption | with_reducible refine L0.at ?_ | with_reducible refine L1.at ?_ | with_reducible refine L2'.at ?_ | with_reducible refine L3.at ?_ | with_reducible refine L4.at ?_ | wp_step))
  refine exc_class_get X hx hc hm ?_
  repeat (any_goals (first | assumption | wp_step))
end
end L2
set_option Elab.async false
set_option linter.all false
set_option maxRecDepth 100000
set_option maxHeartbeats 4000000
namespace L2
open PySem PySem.Spec PyProof.Rows
section
variable {X : Cx} {x : Str} {p pos : Pos} {e o : Expr} {es : List Expr} {t : TA3} {to : TE3} {id T : String} {r3 : List D → Gp → VK3 → Prop}
/-! ### calls of built-ins -/
def CallR3 (X : Cx) (f : Value) (r3 : List D → Gp → VK3 → Prop) : Prop :=
  ∀ (pins : List (Addr × Obj)) (s : Shared) (σ : St) (H : Hp) (xs : List D) (vs : List V) (us : List Value) (G : Gp) (R : VK3) (Q : VK), Inv X pins σ H s → RDs X.K H xs vs → Vals vs us → HR X.K H G → r3 xs G R →
    (∀ v H' d G', Ts H H' → RD X.K H' d v → HR X.K H' G' → R d G' → Q v H') → wpAny (model X.prog X.w) X.A (call f us) (EP X pins σ Q) X.xe s
theorem CallR3.of {f : Value} {r : List V → Hp → VK → Prop} (h : CallR X f r) (i : ∀ (H : Hp) (xs : List D) (vs : List V) (G : Gp) (R : VK3) (Q : VK), RDs X.K H xs vs → HR X.K H G → r3 xs G R →
    (∀ v H' d G', Ts H H' → RD X.K H' d v → HR X.K H' G' → R d G' → Q v H') → r vs H fun v H' => KF X.K H' → Q v H') : CallR3 X f r3 := fun pins s σ H xs vs us G R Q I rx rv g q k =>
  thn (h pins s σ H vs us _ I rv (i H xs vs G R Q rx g q k)) fun _ _ ⟨v, H', I', r, q'⟩ => ⟨v, H', I', r, q' (kf_of I')⟩
def tCB3 (r3 : List D → Gp → VK3 → Prop) (t : TA3) : TE3 := fun ρ G R => t ρ G fun xs G1 => r3 xs G1 R
theorem p_callB (hc : CallR3 X (.builtin id) r3) (hg : Gl X x) (hm : X.mg x = none) (hv : bootBuiltins x = some (.builtin id)) (ha : PA3 X (e :: es) t) (hn : x ≠ "__name__" := by decide) (hdb : (x == ("__debug__" : Str)) = false := by decide)
    (he : starEach (e :: es) X.env = (false, eval e X.env) :: starEach es X.env := by rfl) (hpl : (backTo pos (starEach es X.env)).any (·.1) = false := by rfl) : PE3 X (.Call (.Name x p) (e :: es) [] pos) (tCB3 r3 t) := by
  intro pins s σ H Q I h
  obtain ⟨ρ, G, R, sr, g, q, kk⟩ := h
  refine wpAny_Call_Name_kw (ld_blt I hg hm hv ?_ hn hdb)
  exact PyProof.Rows.callWith_builtin1 (thn (ha pos pins s σ H (fun vs H1 => Ts H H1 ∧ ∃ ds G1, RDs X.K H1 ds vs ∧ HR X.K H1 G1 ∧ r3 ds G1 R) I ⟨ρ, G, _, sr, g, q, fun vs H1 ds G1 t1 r1 g1 q1 => ⟨t1, ds, G1, r1, g1, q1⟩⟩) fun us s1 ⟨vs, H1, I1, r, t1, ds, G1, r1, g1, q1⟩ =>
    hc pins s1 σ H1 ds vs us G1 R Q I1 r1 r g1 q1 fun v H' d G' t2 => kk v H' d G' (t1.trans t2)) he hpl
theorem p_callTy (hc : CallR3 X (.type T) r3) (hg : Gl X x) (hm : X.mg x = none) (hv : bootBuiltins x = some (.type T)) (ha : PA3 X (e :: es) t) (hn : x ≠ "__name__" := by decide) (hdb : (x == ("__debug__" : Str)) = false := by decide)
    (he : starEach (e :: es) X.env = (false, eval e X.env) :: starEach es X.env := by rfl) (hpl : (backTo pos (starEach es X.env)).any (·.1) = false := by rfl) : PE3 X (.Call (.Name x p) (e :: es) [] pos) (tCB3 r3 t) := by
  intro pins s σ H Q I h
  obtain ⟨ρ, G, R, sr, g, q, kk⟩ := h
  refine wpAny_Call_Name_kw (ld_blt I hg hm hv ?_ hn hdb)
  exact PyProof.Rows.callWith_type1 (thn (ha pos pins s σ H (fun vs H1 => Ts H H1 ∧ ∃ ds G1, RDs X.K H1 ds vs ∧ HR X.K H1 G1 ∧ r3 ds G1 R) I ⟨ρ, G, _, sr, g, q, fun vs H1 ds G1 t1 r1 g1 q1 => ⟨t1, ds, G1, r1, g1, q1⟩⟩) fun us s1 ⟨vs, H1, I1, r, t1, ds, G1, r1, g1, q1⟩ =>
    hc pins s1 σ H1 ds vs us G1 R Q I1 r1 r g1 q1 fun v H' d G' t2 => kk v H' d G' (t1.trans t2)) he hpl
/-! ### len, abs, int, list -/
def r_len : List D → Gp → VK3 → Prop := fun xs G R => match xs with
  | [.str z] => z.length ≤ sizeLine ∧ R (.int z.length) G
  | [.tup ds] => R (.int ds.length) G
  | [.ref q] => (match lsOf G q with
    | some ds => R (.int ds.length) G
    | none => False)
  | _ => False
theorem c_len : CallR3 X (.builtin "len") r_len := CallR3.of (call_len_seq.or call_len_str) fun H xs vs G R Q rx g q k => by
  cases rx with
  | nil => exact False.elim q
  | cons r rr =>
    cases rr with
    | cons _ _ => cases r <;> exact False.elim q
    | nil =>
      cases r with
      | str z => exact .inr ⟨z, rfl, q.1, fun _ => k _ H _ G (.refl H) (.int _) g q.2⟩
      | @tup a xs ds ha ra => exact .inl ⟨a, xs, rfl, .inr ha, fun _ => by rw [← ra.length]; exact k _ H _ G (.refl H) (.int _) g q⟩
      | ref a =>
        have q' : (match lsOf G a with
          | some ds => R (.int ds.length) G
          | none => False) := q
        split at q'
        · rename_i ds e1
          obtain ⟨xs, h1, r1⟩ := lsOf_sq g e1
          exact .inl ⟨a, xs, rfl, .inl h1, fun _ => by rw [← r1.length]; exact k _ H _ G (.refl H) (.int _) g q'⟩
        · exact q'.elim
      | _ => exact False.elim q
def r_abs : List D → Gp → VK3 → Prop := fun xs G R => match xs with
  | [.int i] => R (.int (if i < 0 then -i else i)) G
  | _ => False
theorem c_abs : CallR3 X (.builtin "abs") r_abs := CallR3.of call_abs fun H xs vs G R Q rx g q k => by
  cases rx with
  | nil => exact False.elim q
  | cons r rr =>
    cases rr with
    | cons _ _ => cases r <;> exact False.elim q
    | nil =>
      cases r with
      | int i => exact ⟨i, rfl, fun _ => k _ H _ G (.refl H) (.int _) g q⟩
      | _ => exact False.elim q
def r_int : List D → Gp → VK3 → Prop := fun xs G R => match xs with
  | [.int i] => R (.int i) G
  | [.bl b] => R (.int (if b then 1 else 0)) G
  | _ => False
theorem c_int : CallR3 X (.type "int") r_int := CallR3.of call_int1 fun H xs vs G R Q rx g q k => by
  cases rx with
  | nil => exact False.elim q
  | cons r rr =>
    cases rr with
    | cons _ _ => cases r <;> exact False.elim q
    | nil =>
      cases r with
      | int i => exact .inl ⟨i, rfl, fun _ => k _ H _ G (.refl H) (.int _) g q⟩
      | bl b => exact .inr ⟨b, rfl, fun _ => k _ H _ G (.refl H) (.int _) g q⟩
      | _ => exact False.elim q
def r_list : List D → Gp → VK3 → Prop := fun xs G R => match xs with
  | [.tup ds] => ∀ l, G l = none → R (.ref l) (updG G l (.lst ds))
  | [.ref q] => (match lsOf G q with
    | some ds => ∀ l, G l = none → R (.ref l) (updG G l (.lst ds))
    | none => False)
  | _ => False
theorem c_list : CallR3 X (.type "list") r_list := CallR3.of call_list_of fun H xs vs G R Q rx g q k => by
  cases rx with
  | nil => exact False.elim q
  | cons r rr =>
    cases rr with
    | cons _ _ => cases r <;> exact False.elim q
    | nil =>
      cases r with
      | @tup a xs ds ha ra =>
        refine ⟨a, xs, rfl, .inr ha, fun l hl kf => ?_⟩
        have sn : Same H (upd H l (.lst xs)) := same_new hl
        exact k _ _ _ _ (.same sn) (.ref l) (g.put (u := .lst ds) hl ⟨_, upd_same, ra.mono (.same sn)⟩) (q l (fresh3 g hl kf))
      | ref a =>
        have q' : (match lsOf G a with
          | some ds => ∀ l, G l = none → R (.ref l) (updG G l (.lst ds))
          | none => False) := q
        split at q'
        · rename_i ds e1
          obtain ⟨xs, h1, r1⟩ := lsOf_sq g e1
          refine ⟨a, xs, rfl, .inl h1, fun l hl kf => ?_⟩
          have sn : Same H (upd H l (.lst xs)) := same_new hl
          exact k _ _ _ _ (.same sn) (.ref l) (g.put (u := .lst ds) hl ⟨_, upd_same, r1.mono (.same sn)⟩) (q' l (fresh3 g hl kf))
        · exact q'.elim
      | _ => exact False.elim q
/-! ### isinstance -/
def tyD (G : Gp) : D → Option String
  | .non => some "NoneType"
  | .bl _ => some "bool"
  | .int _ => some "int"
  | .str _ => some "str"
  | .tup _ => some "tuple"
  | .ref q => (match G q with
    | some (.lst _) => some "list"
    | some (.rol _) => some "list"
    | some (.dic _ _) => some "dict"
    | _ => none)
  | .ty _ => none
def exD (G : Gp) : D → Option Addr
  | .ref q => (match G q with
    | some (.exn C) => some C
    | _ => none)
  | _ => none
def subB (T n : String) : Bool := T == n || (T == "bool" && n == "int")
def tysL : List String := ["NoneType", "bool", "int", "str", "list", "tuple", "dict"]
def tysR : List String := ["int", "bool", "str", "list", "tuple", "dict", "ValueError"]
theorem kitTab : ∀ T ∈ tysL, ∀ n ∈ tysR, PySem.W.kitOne [] (.type T) (.type n) = some (subB T n) := by decide +kernel
theorem kitTab' (K : Fg) {T n : String} (h1 : T ∈ tysL) (h2 : n ∈ tysR) : PySem.W.kitOne K (.type T) (.type n) = some (subB T n) := kitTab T h1 n h2
/-- what of the text isinstance asks of an exception's class -/
structure ExC (K : Fg) (C : Addr) : Prop where
  ga : PySem.W.findIn K (.ref C) "__getattribute__" = some (some (.builtin "BaseException.__getattribute__"))
  gn : PySem.W.findIn K (.ref C) "__getattr__" = some none
  cl : PySem.W.findIn K (.ref C) "__class__" = some (some (.builtin "object.__class__"))
  be : PySem.W.subIn K (.ref C) (.type "BaseException") = some true
  ob : PySem.W.mroIn K C (.type "object") = some true
  cs : (PySem.W.clsIn K C).isSome = true
theorem kitx_exn {K : Fg} {a C : Addr} (c : ExC K C) : PySem.W.KitX K (.ref a) (.ref C) (ExnAt C a) where
  ty := fun M h X ⟨o, vs, h1, h2, _⟩ => h2 ▸ (PySem.W.Looks.ld h1).andThen .now
  it := fun M h X _ => by
    intro A' Q' E' s' k q
    cases eK : PySem.W.clsIn K C with
    | none => have := c.cs; rw [eK] at this; cases this
    | some cd =>
      unfold PySem.W.clsIn at eK
      split at eK
      · rename_i ho
        unfold isType loadHead
        exact wpAny_bind (wpAny_loadPart (k _ _ (X _ _ ho)) (wpAny_pure q))
      · cases eK
  ne := fun h tp dd its n sl X htp => by
    refine Bool.eq_false_iff.mpr fun q => ?_
    have e : C = tp := Value.ref.inj (beq_iff_eq.mp q)
    subst e
    cases eK : PySem.W.clsIn K C with
    | none => have := c.cs; rw [eK] at this; cases this
    | some cd =>
      unfold PySem.W.clsIn at eK
      split at eK
      · rename_i ho
        have z := (X _ _ ho).symm.trans htp
        cases z
      · cases eK
  ca := fun X ⟨o, vs, h1, h2, _⟩ k => exn_class X h1 h2 c.ga c.gn c.cl c.be c.ob k
def r_isinstance (K : Fg) : List D → Gp → VK3 → Prop := fun xs G R => match xs with
  | [x, .ty n] => (match tyD G x with
    | some T => n ∈ tysR ∧ R (.bl (subB T n)) G
    | none => (match exD G x with
      | some C => ∃ b, ExC K C ∧ PySem.W.kitOne K (.ref C) (.type n) = some b ∧ R (.bl b) G
      | none => False))
  | [x, .ref C'] => (match exD G x with
    | some C => ∃ b, ExC K C ∧ PySem.W.kitOne K (.ref C) (.ref C') = some b ∧ R (.bl b) G
    | none => False)
  | _ => False
theorem exD_of {G : Gp} {x : D} {C : Addr} (h : exD G x = some C) : ∃ a, x = .ref a ∧ G a = some (.exn C) := by
  cases x with
  | ref q =>
    refine ⟨q, rfl, ?_⟩
    have h' : (match G q with
      | some (.exn C) => some C
      | _ => none) = some C := h
    split at h'
    · rename_i e1; cases h'; exact e1
    · cases h'
  | _ => cases h
theorem isi_exn {pins : List (Addr × Obj)} {s : Shared} {σ : St} {H : Hp} {a C : Addr} {c : Value} {b : Bool} {G : Gp} {R : VK3} {Q : VK} (I : Inv X pins σ H s) (g : HR X.K H G) (e : G a = some (.exn C)) (hc : ExC X.K C) (hk : PySem.W.kitOne X.K (.ref C) c = some b) (q : R (.bl b) G)
    (k : ∀ v H' d G', Ts H H' → RD X.K H' d v → HR X.K H' G' → R d G' → Q v H') : wpAny (model X.prog X.w) X.A (call (.builtin "isinstance") [.ref a, c]) (EP X pins σ Q) X.xe s := by
  obtain ⟨o0, vs0, z, _⟩ := g a _ e
  obtain ⟨_, z1, _, _⟩ := I.hok a _ z
  exact PySem.W.kia_one (kitx_exn hc) I.kIn z1 hk (fun z => nomatch z) fun tk => ⟨.bl b, H, I.tok tk, rfl, k _ H _ G (.refl H) (.bl b) g q⟩
theorem isi_ty {pins : List (Addr × Obj)} {s : Shared} {σ : St} {H : Hp} {x : D} {vx : V} {u : Value} {T n : String} {G : Gp} {R : VK3} {Q : VK} (I : Inv X pins σ H s) (rx : RD X.K H x vx) (ru : RelV vx u) (g : HR X.K H G) (e : tyD G x = some T) (hn : n ∈ tysR) (q : R (.bl (subB T n)) G)
    (k : ∀ v H' d G', Ts H H' → RD X.K H' d v → HR X.K H' G' → R d G' → Q v H') : wpAny (model X.prog X.w) X.A (call (.builtin "isinstance") [u, .type n]) (EP X pins σ Q) X.xe s := by
  have fin : ∀ tk, EP X pins σ Q (.bool (subB T n)) { s with toks := tk } := fun tk => ⟨.bl _, H, I.tok tk, rfl, k _ H _ G (.refl H) (.bl _) g q⟩
  cases rx with
  | non => cases ru; cases e; exact PySem.W.kia_one PySem.W.kitx_none I.kIn True.intro (kitTab' _ (by decide) hn) (fun z => nomatch z) fin
  | bl b => cases ru; cases e; exact PySem.W.kia_one PySem.W.kitx_bool I.kIn True.intro (kitTab' _ (by decide) hn) (fun z => nomatch z) fin
  | int i => obtain ⟨t, rfl⟩ := ru; cases e; exact PySem.W.kia_one PySem.W.kitx_int I.kIn True.intro (kitTab' _ (by decide) hn) (fun z => nomatch z) fin
  | str i => obtain ⟨t, rfl⟩ := ru; cases e; exact PySem.W.kia_one PySem.W.kitx_str I.kIn True.intro (kitTab' _ (by decide) hn) (fun z => nomatch z) fin
  | ty n => cases e
  | @tup a xs ds ha ra =>
    cases ru; cases e
    obtain ⟨its, _, p, _⟩ := I.tuple ha
    obtain ⟨o, h1, h2, _⟩ := p
    exact PySem.W.kia_one PySem.W.kitx_tuple I.kIn ⟨o, h1, h2⟩ (kitTab' _ (by decide) hn) (fun z => nomatch z) fin
  | ref a =>
    cases ru
    have e' : (match G a with
      | some (.lst _) => some "list"
      | some (.rol _) => some "list"
      | some (.dic _ _) => some "dict"
      | _ => none) = some T := e
    split at e'
    · rename_i ds e1
      cases e'
      obtain ⟨xs, h1, _⟩ := lsOf_sq g (show lsOf G a = some ds by unfold lsOf; rw [e1])
      obtain ⟨its, _, p, _⟩ := I.list h1
      obtain ⟨o, n', h1, h2, _⟩ := p
      exact PySem.W.kia_one PySem.W.kitx_list I.kIn ⟨o, h1, h2⟩ (kitTab' _ (by decide) hn) (fun z => nomatch z) fin
    · rename_i ds e1
      cases e'
      obtain ⟨xs, h1, _⟩ := lsOf_sq g (show lsOf G a = some ds by unfold lsOf; rw [e1])
      obtain ⟨its, _, p, _⟩ := I.list h1
      obtain ⟨o, n', h1, h2, _⟩ := p
      exact PySem.W.kia_one PySem.W.kitx_list I.kIn ⟨o, h1, h2⟩ (kitTab' _ (by decide) hn) (fun z => nomatch z) fin
    · rename_i kvs e1
      cases e'
      rcases g a _ e1 with ⟨_, xs, h1, _⟩ | ⟨_, xs, h1, _⟩
      · obtain ⟨_, _, vs, _, o, es, ep, h1, h2, _⟩ := I.hok a _ h1
        exact PySem.W.kia_one PySem.W.kitx_dict I.kIn ⟨o, h1, h2.1⟩ (kitTab' _ (by decide) hn) (fun z => nomatch z) fin
      · obtain ⟨_, _, xs, _, o, es, ep, h1, h2, _⟩ := I.hok a _ h1
        exact PySem.W.kia_one PySem.W.kitx_dict I.kIn ⟨o, h1, h2.1⟩ (kitTab' _ (by decide) hn) (fun z => nomatch z) fin
    · cases e'
theorem c_isinstance : CallR3 X (.builtin "isinstance") (r_isinstance X.K) := by
  intro pins s σ H xs vs us G R Q I rx rv g q k
  cases rx with
  | nil => exact False.elim q
  | @cons x v ds ws r1 rr =>
    cases rr with
    | nil => cases r1 <;> exact False.elim q
    | @cons y v2 ds2 ws2 r2 rr2 =>
      cases rr2 with
      | cons _ _ => cases r2 <;> exact False.elim q
      | nil =>
        obtain ⟨u1, u2, rfl, ru1, ru2⟩ := vals2 rv
        cases r2 with
        | ty n =>
          cases ru2
          have q' : (match tyD G x with
            | some T => n ∈ tysR ∧ R (.bl (subB T n)) G
            | none => (match exD G x with
              | some C => ∃ b, ExC X.K C ∧ PySem.W.kitOne X.K (.ref C) (.type n) = some b ∧ R (.bl b) G
              | none => False)) := q
          split at q'
          · rename_i T eT
            exact isi_ty I r1 ru1 g eT q'.1 q'.2 k
          · split at q'
            · rename_i C eC
              obtain ⟨a, rfl, ea⟩ := exD_of eC
              obtain ⟨b, hc, hk, q'⟩ := q'
              cases r1; cases ru1
              exact isi_exn I g ea hc hk q' k
            · exact q'.elim
        | ref C' =>
          cases ru2
          have q' : (match exD G x with
            | some C => ∃ b, ExC X.K C ∧ PySem.W.kitOne X.K (.ref C) (.ref C') = some b ∧ R (.bl b) G
            | none => False) := q
          split at q'
          · rename_i C eC
            obtain ⟨a, rfl, ea⟩ := exD_of eC
            obtain ⟨b, hc, hk, q'⟩ := q'
            cases r1; cases ru1
            exact isi_exn I g ea hc hk q' k
          · exact q'.elim
        | _ => exact False.elim q
end
end L2
set_option Elab.async false
set_option linter.all false
set_option maxRecDepth 100000
set_option maxHeartbeats 4000000
namespace L2
open PySem PySem.Spec PyProof.Rows
/-! ### in, not in -/
theorem inV_of {K : Fg} {H : Hp} {x : D} {vx : V} (hx : scD x = true) (rx : RD K H x vx) : ∀ {ys : List D} {vs : List V}, RDs K H ys vs → ys.all scD = true → vs.any (fun y => eqV y vx) = ys.any (fun y => eqP y x)
  | _, _, .nil, _ => rfl
  | _, _, .cons h r, hs => by
    rw [List.all_cons, Bool.and_eq_true] at hs
    rw [List.any_cons, List.any_cons, inV_of hx rx r hs.2]
    congr 1
    obtain ⟨h1, _⟩ := hs
    cases rx <;> cases h <;> first | (simp [eqV, eqP]; done) | cases hx | cases h1
theorem flat_of {K : Fg} {H : Hp} {x : D} {vx : V} (hx : scD x = true) (rx : RD K H x vx) : flatV vx = true := by cases rx <;> first | rfl | cases hx
theorem flats_of {K : Fg} {H : Hp} : ∀ {ys : List D} {vs : List V}, RDs K H ys vs → ys.all scD = true → vs.all flatV = true
  | _, _, .nil, _ => rfl
  | _, _, .cons h r, hs => by
    rw [List.all_cons, Bool.and_eq_true] at hs
    rw [List.all_cons, flat_of hs.1 h, flats_of r hs.2]; rfl
def inG (G : Gp) (x y : D) (k : Bool → Prop) : Prop := match x, y with
  | .str i, .str j => k (!(Builtin.Str.occurrences j i 0 j.length 1).isEmpty)
  | x, .tup ys => scD x = true ∧ ys.all scD = true ∧ k (ys.any fun y => eqP y x)
  | x, .ref p => (match lsOf G p with
    | some ys => scD x = true ∧ ys.all scD = true ∧ k (ys.any fun y => eqP y x)
    | none => False)
  | _, _ => False
def rIn3 : R3 := fun x y G R => inG G x y fun b => R (.bl b) G
def rNotIn3 : R3 := fun x y G R => inG G x y fun b => R (.bl (!b)) G
section
variable {X : Cx}
theorem o_in (hu : X.A.units + 64 < cLine) : OpC3 X (compareOp .In) rIn3 := by
  refine ⟨_, op_in_str.or op_in_seq, fun H x y vx vy G R Q rx ry g h k => ?_⟩
  have h' : inG G x y fun b => R (.bl b) G := h
  unfold inG at h'
  split at h'
  · cases rx; cases ry
    exact .inl ⟨_, _, rfl, rfl, k _ H _ G (.refl H) (.bl _) g h'⟩
  · cases ry with
    | @tup a xs ds ha ra =>
      refine .inr ⟨a, xs, rfl, .inr ha, flat_of h'.1 rx, flats_of ra h'.2.1, ?_⟩
      have e : inV vx xs = _ := inV_of h'.1 rx ra h'.2.1
      simp only [Bool.false_eq_true, if_false]
      rw [e]
      exact k _ H _ G (.refl H) (.bl _) g h'.2.2
  · cases ry
    split at h'
    · rename_i ys e1
      obtain ⟨xs, hq, ra⟩ := lsOf_sq g e1
      refine .inr ⟨_, xs, rfl, .inl hq, flat_of h'.1 rx, flats_of ra h'.2.1, ?_⟩
      have e : inV vx xs = _ := inV_of h'.1 rx ra h'.2.1
      simp only [Bool.false_eq_true, if_false]
      rw [e]
      exact k _ H _ G (.refl H) (.bl _) g h'.2.2
    · exact h'.elim
  · exact h'.elim
theorem o_notin (hu : X.A.units + 64 < cLine) : OpC3 X (compareOp .NotIn) rNotIn3 := by
  refine ⟨_, op_notin_str.or op_notIn_seq, fun H x y vx vy G R Q rx ry g h k => ?_⟩
  have h' : inG G x y fun b => R (.bl (!b)) G := h
  unfold inG at h'
  split at h'
  · cases rx; cases ry
    exact .inl ⟨_, _, rfl, rfl, k _ H _ G (.refl H) (.bl _) g h'⟩
  · cases ry with
    | @tup a xs ds ha ra =>
      refine .inr ⟨a, xs, rfl, .inr ha, flat_of h'.1 rx, flats_of ra h'.2.1, ?_⟩
      have e : inV vx xs = _ := inV_of h'.1 rx ra h'.2.1
      simp only [if_true]
      rw [e]
      exact k _ H _ G (.refl H) (.bl _) g h'.2.2
  · cases ry
    split at h'
    · rename_i ys e1
      obtain ⟨xs, hq, ra⟩ := lsOf_sq g e1
      refine .inr ⟨_, xs, rfl, .inl hq, flat_of h'.1 rx, flats_of ra h'.2.1, ?_⟩
      have e : inV vx xs = _ := inV_of h'.1 rx ra h'.2.1
      simp only [if_true]
      rw [e]
      exact k _ H _ G (.refl H) (.bl _) g h'.2.2
    · exact h'.elim
  · exact h'.elim
/-! ### slices -/
def rSl3 (x : D) (lo hi : Option Int) (G : Gp) (R : VK3) : Prop := match x with
  | .tup xs => ¬ (HT.sIx xs.length 0 lo = 0 ∧ HT.sIx xs.length xs.length hi = xs.length) ∧ R (.tup (cutD xs lo hi)) G
  | .str z => z.length ≤ sizeLine ∧ R (.str (Txt.slice z lo hi)) G
  | .ref p => (match lsOf G p with
    | some xs => ∀ q, G q = none → R (.ref q) (updG G q (.lst (cutD xs lo hi)))
    | none => False)
  | _ => False
theorem sl_str : SlR X (fun x lo hi H Q => ∃ z, x = .str z ∧ z.length ≤ sizeLine ∧ Q (.str (Txt.slice z lo hi)) H) := by
  intro pins s σ H x v vl vu lo hi sl Q I rx hs pl pu h
  obtain ⟨z, rfl, hz, q⟩ := h
  obtain ⟨t, rfl⟩ := rx
  refine ⟨"str", _, F.slot_str_getitem.lookup, typeIs_str _ _ _, ?_⟩
  have fin : ∀ t' k, EP X pins σ Q (.str (Txt.slice z lo hi) t') { s with toks := k } := fun t' k => ⟨.str _, H, I.tok k, ⟨t', rfl⟩, q⟩
  cases pl with
  | none =>
    cases pu with
    | none => exact wpAny_getItem_str_slice (l := none) (u := none) (st := none) hs rfl (post_val_or_str ⟨Nat.le_trans (Txt.slice_le z _ _) hz, fin⟩)
    | int j uj => exact wpAny_getItem_str_slice (l := none) (u := some (j, uj)) (st := none) hs rfl (post_val_or_str ⟨Nat.le_trans (Txt.slice_le z _ _) hz, fin⟩)
  | int i ui =>
    cases pu with
    | none => exact wpAny_getItem_str_slice (l := some (i, ui)) (u := none) (st := none) hs rfl (post_val_or_str ⟨Nat.le_trans (Txt.slice_le z _ _) hz, fin⟩)
    | int j uj => exact wpAny_getItem_str_slice (l := some (i, ui)) (u := some (j, uj)) (st := none) hs rfl (post_val_or_str ⟨Nat.le_trans (Txt.slice_le z _ _) hz, fin⟩)
theorem cut_rd {K : Fg} {H : Hp} {ds : List D} {xs : List V} (r : RDs K H ds xs) (lo hi : Option Int) : RDs K H (cutD ds lo hi) (cutV xs lo hi) := by
  unfold cutD cutV
  rw [r.length]
  exact (r.drop _).take _
def tSlice3 (te : TE3) (tl th : TO3) : TE3 := fun ρ G R => te ρ G fun x G1 => tl ρ G1 fun lo G2 => th ρ G2 fun hi G3 => rSl3 x lo hi G3 R
theorem p_slice {e : Expr} {te : TE3} {lo hi : Option Expr} {tl th : TO3} {p2 pos : Pos} (he : PE3 X e te) (hl : PO3 X lo tl) (hu : PO3 X hi th) : PE3 X (.Subscript e (.Slice lo hi none p2) pos) (tSlice3 te tl th) := by
  refine PE.imp (PE.kf (pe_slice (sl_list.or (sl_tup.or sl_str)) he hl hu)) fun σ H Q h => ?_
  obtain ⟨ρ, G, R, s, g, q, k⟩ := h
  refine ⟨ρ, G, _, s, g, q, fun vx H1 x G1 t1 rx g1 q1 => ?_⟩
  refine ⟨ρ, G1, _, s.mono t1, g1, q1, fun l H2 G2 t2 g2 q2 => ?_⟩
  refine ⟨ρ, G2, _, s.mono (t1.trans t2), g2, q2, fun u H3 G3 t3 g3 q3 => ?_⟩
  have rx3 := rx.mono (t2.trans t3)
  have tt := (t1.trans t2).trans t3
  cases rx3 with
  | @tup a xs ds ha ra =>
    refine .inr (.inl ⟨a, xs, rfl, ha, by rw [← ra.length]; exact q3.1, fun p hp _ => ?_⟩)
    have sn : Same H3 (upd H3 p (.tup (cutV xs l u))) := same_new hp
    exact k _ _ _ G3 (tt.trans (.same sn)) (.tup (SqT.of upd_same) ((cut_rd ra l u).mono (.same sn)) upd_same) (g3.same sn) q3.2
  | str z => exact .inr (.inr ⟨z, rfl, q3.1, fun _ => k _ H3 _ G3 tt (.str _) g3 q3.2⟩)
  | ref p =>
    have q3' : (match lsOf G3 p with
      | some xs => ∀ q, G3 q = none → R (.ref q) (updG G3 q (.lst (cutD xs l u)))
      | none => False) := q3
    split at q3'
    · rename_i ds e1
      obtain ⟨xs, hq, ra⟩ := lsOf_sq g3 e1
      refine .inl ⟨p, xs, rfl, hq, fun b hb kf => ?_⟩
      have sn : Same H3 (upd H3 b (.lst (cutV xs l u))) := same_new hb
      exact k _ _ _ _ (tt.trans (.same sn)) (.ref b) (g3.put (u := .lst (cutD ds l u)) hb ⟨_, upd_same, (cut_rd ra l u).mono (.same sn)⟩) (q3' b (fresh3 g3 hb kf))
    · exact q3'.elim
  | _ => exact False.elim q3
/-! ### methods of built-in values -/
def tyOk (T : String) (G : Gp) : D → Prop
  | .str _ => T = "str"
  | .ref p => T = "list" ∧ (lsOf G p).isSome = true
  | _ => False
theorem tyOk_V {K : Fg} {H : Hp} {G : Gp} {T : String} {x : D} {v : V} (g : HR K H G) (r : RD K H x v) (h : tyOk T G x) : tyV K T v H := by
  cases r with
  | str z => exact h
  | ref p =>
    obtain ⟨rfl, h⟩ := h
    obtain ⟨ds, e⟩ := Option.isSome_iff_exists.mp h
    obtain ⟨xs, hq, _⟩ := lsOf_sq g e
    exact .inl ⟨rfl, xs, hq⟩
  | _ => exact False.elim h
abbrev RM3 := D → List D → Gp → VK3 → Prop
def MtR3 (X : Cx) (id : String) (r3 : RM3) : Prop :=
  ∀ (pins : List (Addr × Obj)) (s : Shared) (σ : St) (H : Hp) (x : D) (xs : List D) (vx : V) (vs : List V) (u : Value) (us : List Value) (G : Gp) (R : VK3) (Q : VK), Inv X pins σ H s → RD X.K H x vx → RDs X.K H xs vs → RelV vx u → Vals vs us → HR X.K H G → r3 x xs G R →
    (∀ v H' d G', Ts H H' → RD X.K H' d v → HR X.K H' G' → R d G' → Q v H') → wpAny (model X.prog X.w) X.A (call (.builtin id) (u :: us)) (EP X pins σ Q) X.xe s
theorem MtR3.of {id : String} {r : V → List V → Hp → VK → Prop} {r3 : RM3} (h : MtR X id r) (i : ∀ (H : Hp) (x : D) (xs : List D) (vx : V) (vs : List V) (G : Gp) (R : VK3) (Q : VK), RD X.K H x vx → RDs X.K H xs vs → HR X.K H G → r3 x xs G R →
    (∀ v H' d G', Ts H H' → RD X.K H' d v → HR X.K H' G' → R d G' → Q v H') → r vx vs H fun v H' => KF X.K H' → Q v H') : MtR3 X id r3 := fun pins s σ H x xs vx vs u us G R Q I rx rs ru rv g q k =>
  thn (h pins s σ H vx vs u us _ I ru rv (i H x xs vx vs G R Q rx rs g q k)) fun _ _ ⟨v, H', I', r, q'⟩ => ⟨v, H', I', r, q' (kf_of I')⟩
def tM3 (T : String) (r : RM3) (to : TE3) (t : TA3) : TE3 := fun ρ G R => to ρ G fun x G1 => tyOk T G1 x ∧ t ρ G1 fun xs G2 => r x xs G2 R
def tM03 (T : String) (r : RM3) (to : TE3) : TE3 := fun ρ G R => to ρ G fun x G1 => tyOk T G1 x ∧ r x [] G1 R
theorem p_bm {o e : Expr} {es : List Expr} {to : TE3} {t : TA3} {name : Str} {apos cpos : Pos} {T id : String} {r3 : RM3} (pa : PlainAttrs T) (slot : Slot T name id) (hty : typeOf (.builtin id) = pure (.type "method_descriptor")) (hm : MtR3 X id r3) (ho : PE3 X o to) (ha : PA3 X (e :: es) t)
    (hbase : attributeBase o name X.env (eval o X.env) = eval o X.env := by rfl)
    (hfew : ((backTo cpos (starEach (e :: es) X.env)).all (fun x => !x.1) && (backToKw cpos (keywordEach [] X.env)).all (fun x => x.1.isSome)
      && decide ((e :: es).length + ([] : List Keyword).length + (if ([] : List Keyword).isEmpty then 0 else 1) < 30)) = true := by rfl)
    (hline : (apos.endLine == cpos.line) = true := by rfl) (hs : starEach (e :: es) X.env = (false, eval e X.env) :: starEach es X.env := by rfl) (hplain : (backTo cpos (starEach es X.env)).any (·.1) = false := by rfl) :
    PE3 X (.Call (.Attribute o name apos) (e :: es) [] cpos) (tM3 T r3 to t) := by
  intro pins s σ H Q I h
  obtain ⟨ρ, G, R, sr, g, q, kk⟩ := h
  refine wpAny_Call_method_late hbase hfew hline rfl (thn (ho pins s σ H (fun vx H1 => Ts H H1 ∧ ∃ x G1, RD X.K H1 x vx ∧ HR X.K H1 G1 ∧ tyOk T G1 x ∧ t ρ G1 fun xs G2 => r3 x xs G2 R) I ⟨ρ, G, _, sr, g, q, fun v H1 x G1 t1 r1 g1 q1 => ⟨t1, x, G1, r1, g1, q1⟩⟩) fun v s1 ⟨vx, H1, I1, r1, t1, x, G1, rx, g1, ty, q1⟩ => ?_)
  obtain ⟨h1, h2⟩ := tyV_is I1 r1 (tyOk_V g1 rx ty)
  refine ⟨T, id, pa, slot, hty, h1, h2, ?_⟩
  have hA := ha cpos pins s1 σ H1 (fun vs H2 => Ts H1 H2 ∧ ∃ xs G2, RDs X.K H2 xs vs ∧ HR X.K H2 G2 ∧ r3 x xs G2 R) I1 ⟨ρ, G1, _, sr.mono t1, g1, q1, fun vs H2 xs G2 t2 r2 g2 q2 => ⟨t2, xs, G2, r2, g2, q2⟩⟩
  rw [hs] at hA ⊢
  refine Calls.callWith_builtin (by show (false || (backTo cpos (starEach es X.env)).any (·.1)) = false; rw [hplain] <;> rfl) (Calls.evalArgs_plain ?_)
  exact thn hA fun us s2 ⟨vs, H2, I2, r2, t2, xs, G2, rs, g2, q2⟩ => hm pins s2 σ H2 x xs vx vs v us G2 R Q I2 (rx.mono t2) rs r1 r2 g2 q2 fun v H' d G' t3 => kk v H' d G' ((t1.trans t2).trans t3)
theorem p_bm0 {o : Expr} {to : TE3} {name : Str} {apos cpos : Pos} {T id : String} {r3 : RM3} (pa : PlainAttrs T) (slot : Slot T name id) (hty : typeOf (.builtin id) = pure (.type "method_descriptor")) (hm : MtR3 X id r3) (ho : PE3 X o to)
    (hbase : attributeBase o name X.env (eval o X.env) = eval o X.env := by rfl) (hline : (apos.endLine == cpos.line) = true := by rfl) : PE3 X (.Call (.Attribute o name apos) [] [] cpos) (tM03 T r3 to) := by
  intro pins s σ H Q I h
  obtain ⟨ρ, G, R, sr, g, q, kk⟩ := h
  refine wpAny_Call_method0_late hbase hline (thn (ho pins s σ H (fun vx H1 => Ts H H1 ∧ ∃ x G1, RD X.K H1 x vx ∧ HR X.K H1 G1 ∧ tyOk T G1 x ∧ r3 x [] G1 R) I ⟨ρ, G, _, sr, g, q, fun v H1 x G1 t1 r1 g1 q1 => ⟨t1, x, G1, r1, g1, q1⟩⟩) fun v s1 ⟨vx, H1, I1, r1, t1, x, G1, rx, g1, ty, q1⟩ => ?_)
  obtain ⟨h1, h2⟩ := tyV_is I1 r1 (tyOk_V g1 rx ty)
  exact ⟨T, id, pa, slot, hty, h1, h2, Calls.callWith_builtin rfl (PySem.evalArgs_none (hm pins s1 σ H1 x [] vx [] v [] G1 R Q I1 rx .nil r1 .nil g1 q1 fun v H' d G' t3 => kk v H' d G' (t1.trans t3)))⟩
def r_append : RM3 := fun x xs G R => match x, xs with
  | .ref p, [d] => (match G p with
    | some (.lst ds) => ds.length < sizeLine ∧ R .non (updG G p (.lst (ds ++ [d])))
    | _ => False)
  | _, _ => False
theorem m_append : MtR3 X "list.append" r_append := MtR3.of mt_append fun H x xs vx vs G R Q rx rs g q k => by
  cases rx with
  | ref p =>
    cases rs with
    | nil => exact False.elim q
    | @cons d v ds ws r rr =>
      cases rr with
      | cons _ _ => exact False.elim q
      | nil =>
        have q' : (match G p with
          | some (.lst ds) => ds.length < sizeLine ∧ R .non (updG G p (.lst (ds ++ [d])))
          | _ => False) := q
        split at q'
        · rename_i ds e1
          obtain ⟨ys, f1, r1⟩ := g p _ e1
          refine ⟨p, ys, v, rfl, rfl, f1, by rw [← r1.length]; exact q'.1, fun _ => ?_⟩
          have tt : Ts H (upd H p (.lst (ys ++ [v]))) := .turn f1 (fun _ z => nomatch z) (fun _ _ z => nomatch z)
          exact k _ _ _ _ tt .non (g.turn (u := .lst (ds ++ [d])) tt ⟨_, upd_same, (r1.append (.cons r .nil)).mono tt⟩) q'.2
        · exact q'.elim
  | _ => cases rs <;> exact False.elim q
def r_extend : RM3 := fun x xs G R => match x, xs with
  | .ref p, [.ref b] => (match G p, G b with
    | some (.lst ds), some (.lst es) => ds.length + es.length ≤ sizeLine ∧ R .non (updG G p (.lst (ds ++ es)))
    | _, _ => False)
  | _, _ => False
def r_index : RM3 := fun x xs G R => match x, xs with
  | .str j, [.str i] => (match Builtin.Str.occurrences j i 0 j.length 1 with
    | k :: _ => R (.int k) G
    | [] => False)
  | _, _ => False
def r_lower : RM3 := fun x xs G R => match x, xs with
  | .str j, [] => Builtin.Str.tooLong (Txt.lower j).length = false ∧ R (.str (Txt.lower j)) G
  | _, _ => False
/-! ### {} -/
def tDNew3 : TE3 := fun _ G R => ∀ p, G p = none → R (.ref p) (updG G p (.dic false []))
/-- {}, whose keys will be tuples -/
def tDNewT3 : TE3 := fun _ G R => ∀ p, G p = none → R (.ref p) (updG G p (.dic true []))
end
end L2
namespace L2
open PySem
theorem bt_isinstance : bootBuiltins "isinstance" = some (.builtin "isinstance") := by decide +kernel
theorem bt_len : bootBuiltins "len" = some (.builtin "len") := by decide +kernel
theorem bt_abs : bootBuiltins "abs" = some (.builtin "abs") := by decide +kernel
theorem bt_int : bootBuiltins "int" = some (.type "int") := by decide +kernel
theorem bt_bool : bootBuiltins "bool" = some (.type "bool") := by decide +kernel
theorem bt_str : bootBuiltins "str" = some (.type "str") := by decide +kernel
theorem bt_tuple : bootBuiltins "tuple" = some (.type "tuple") := by decide +kernel
theorem bt_list : bootBuiltins "list" = some (.type "list") := by decide +kernel
end L2
set_option Elab.async false
set_option linter.all false
set_option maxRecDepth 100000
set_option maxHeartbeats 4000000
namespace L2
open PySem PySem.Spec PyProof.Rows
/-! ### the signs of a text, walked -/
def Its (x : Str) : It := ⟨fun i _ => i < x.cps.size, fun i H v H' => H' = H ∧ ∃ c, x.cps[i]? = some c ∧ v = .str ⟨#[c]⟩, fun i _ => x.cps.size ≤ i⟩
theorem turn_strA {cm : Bool} {tl : List (Addr × List V)} {P : Program} {w : World} {K : PySem.W.Frag} {tg : Expr} (it : Addr) (x : Str) (t : Tok) : Turn cm tl P w K tg (Its x) [it] it (fun i h => h.IsStrIter it "str_ascii_iterator" x t (min i x.cps.size)) where
  mem := by simp
  obj := fun i h st b hb => by
    have e : b = it := by simpa using hb
    subst e
    obtain ⟨o, e, c, d⟩ := st
    exact ⟨o, e, fun v z => by rw [d] at z; cases z⟩
  keep := fun i h h' st k => let ⟨o, e, r⟩ := st; ⟨o, k it (by simp) o e, r⟩
  item := by
    intro X hP hw hK hcm ht i pins s σ H E I hf st hg
    subst hP hw hK
    obtain ⟨f0, f1, f2, f3, f4, f5⟩ := hf it (by simp)
    have hi : i < x.cps.size := hg
    rw [Nat.min_eq_left (Nat.le_of_lt hi)] at st
    refine wpAny_pyNext_ascii_item st (c := x.cps[i]) (by simp [hi]) fun h' st' kk => ?_
    have I1 : Inv X pins σ H { s with heap := h', toks := s.toks + 1 } := I.turned (fun b o hb e => (kk.2 b hb).trans e) f0 f1 f3 f4 f5
    obtain ⟨o, e1, c1, d1⟩ := id st'
    refine ⟨_, rfl, go_of (s := { s with heap := h', toks := s.toks + 1 }) e1 c1 d1 (by decide) ⟨.str ⟨#[x.cps[i]]⟩, H, I1, ⟨_, rfl⟩, ⟨rfl, x.cps[i], by simp [hi], rfl⟩, ?_, fun b hb => (hf b hb).1⟩⟩
    rw [Nat.min_eq_left hi]
    exact st'
  done := by
    intro X hP hw hK hcm ht i pins s σ H E I hf st hg
    subst hP hw hK
    obtain ⟨f0, f1, f2, f3, f4, f5⟩ := hf it (by simp)
    have hi : x.cps.size ≤ i := hg
    rw [Nat.min_eq_right hi] at st
    exact strA_stop (I.hnd.heap I.hok) st (by simp) fun h' eb => ⟨rfl, I.turned (t' := s.toks) (fun b o hb e => eb b o hb e) f0 f1 f3 f4 f5⟩
  self := fun _ _ _ _ _ st h => wpAny_pyIter_striter_ascii st h
theorem turn_strW {cm : Bool} {tl : List (Addr × List V)} {P : Program} {w : World} {K : PySem.W.Frag} {tg : Expr} (it : Addr) (x : Str) (t : Tok) : Turn cm tl P w K tg (Its x) [it] it (fun i h => h.IsStrIter it "str_iterator" x t (min i x.cps.size)) where
  mem := by simp
  obj := fun i h st b hb => by
    have e : b = it := by simpa using hb
    subst e
    obtain ⟨o, e, c, d⟩ := st
    exact ⟨o, e, fun v z => by rw [d] at z; cases z⟩
  keep := fun i h h' st k => let ⟨o, e, r⟩ := st; ⟨o, k it (by simp) o e, r⟩
  item := by
    intro X hP hw hK hcm ht i pins s σ H E I hf st hg
    subst hP hw hK
    obtain ⟨f0, f1, f2, f3, f4, f5⟩ := hf it (by simp)
    have hi : i < x.cps.size := hg
    rw [Nat.min_eq_left (Nat.le_of_lt hi)] at st
    refine wpAny_pyNext_wide_item st (c := x.cps[i]) (by simp [hi]) fun h' st' kk => ?_
    have I1 : Inv X pins σ H { s with heap := h', toks := s.toks + 1 } := I.turned (fun b o hb e => (kk.2 b hb).trans e) f0 f1 f3 f4 f5
    obtain ⟨o, e1, c1, d1⟩ := id st'
    refine ⟨_, rfl, go_of (s := { s with heap := h', toks := s.toks + 1 }) e1 c1 d1 (by decide) ⟨.str ⟨#[x.cps[i]]⟩, H, I1, ⟨_, rfl⟩, ⟨rfl, x.cps[i], by simp [hi], rfl⟩, ?_, fun b hb => (hf b hb).1⟩⟩
    rw [Nat.min_eq_left hi]
    exact st'
  done := by
    intro X hP hw hK hcm ht i pins s σ H E I hf st hg
    subst hP hw hK
    obtain ⟨f0, f1, f2, f3, f4, f5⟩ := hf it (by simp)
    have hi : x.cps.size ≤ i := hg
    rw [Nat.min_eq_right hi] at st
    exact strW_stop (I.hnd.heap I.hok) st (by simp) fun h' eb => ⟨rfl, I.turned (t' := s.toks) (fun b o hb e => eb b o hb e) f0 f1 f3 f4 f5⟩
  self := fun _ _ _ _ _ st h => wpAny_pyIter_striter_wide st h
/-! ### what is walked -/
inductive Src where
  | lst (p : Addr) (xs : List D) | imm (xs : List D) | zip (p q : Addr) (xs ys : List D)
def prs (xs ys : List D) : List D := (xs.zip ys).map fun z => .tup [z.1, z.2]
def Src.items : Src → List D
  | .lst _ xs => xs
  | .imm xs => xs
  | .zip _ _ xs ys => prs xs ys
def Src.ok (G : Gp) : Src → Prop
  | .lst p xs => lsOf G p = some xs
  | .imm _ => True
  | .zip p q xs ys => lsOf G p = some xs ∧ lsOf G q = some ys
def SrcJ (K : Fg) (H1 : Hp) (src : Src) (J : It) : Prop := ∀ H2 G2, Ts H1 H2 → HR K H2 G2 → src.ok G2 →
  (∀ i, i < src.items.length → J.go i H2) ∧ (∀ i v H', i < src.items.length → J.yld i H2 v H' → Same H2 H' ∧ ∃ d, src.items[i]? = some d ∧ RD K H' d v) ∧ J.stop src.items.length H2
abbrev TI3 := St3 → Gp → (Src → Gp → Prop) → Prop
def upI (K : Fg) (t : TI3) : TI := fun σ H Q => ∃ ρ G R, SR K H ρ σ ∧ HR K H G ∧ t ρ G R ∧ ∀ src J H' G', Ts H H' → HR K H' G' → SrcJ K H' src J → R src G' → Q J H'
abbrev PI3 (X : Cx) (tg iter : Expr) (t : TI3) : Prop := PI X tg iter (upI X.K t)
def signs (z : Str) : List D := z.cps.toList.map fun c => .str ⟨#[c]⟩
def tiAny3 (te : TE3) : TI3 := fun ρ G R => te ρ G fun x G1 => match x with
  | .ref p => (match lsOf G1 p with
    | some xs => R (.lst p xs) G1
    | none => False)
  | .tup xs => R (.imm xs) G1
  | .str z => R (.imm (signs z)) G1
  | _ => False
theorem srcJ_list {K : Fg} {H1 : Hp} {p : Addr} {xs : List D} : SrcJ K H1 (.lst p xs) (Itl K p) := fun H2 G2 t g ok => by
  obtain ⟨vs, hq, rv⟩ := lsOf_sq g (show lsOf G2 p = some xs from ok)
  refine ⟨fun i hi => ?_, fun i v H' hi hy => ?_, ⟨vs, hq, Nat.le_of_eq rv.length.symm⟩⟩
  · have hi' : i < xs.length := hi
    obtain ⟨y, e1, _⟩ := rv.get (List.getElem?_eq_getElem hi')
    exact ⟨vs, y, hq, e1⟩
  · obtain ⟨rfl, hy⟩ := hy
    obtain ⟨d, e1, e2⟩ := rv.getV (hy vs hq)
    exact ⟨.refl _, d, e1, e2⟩
theorem srcJ_tup {K : Fg} {H1 : Hp} {a : Addr} {vs : List V} {xs : List D} (hq : SqT K H1 a vs) (rv : RDs K H1 xs vs) : SrcJ K H1 (.imm xs) (Itt K a) := fun H2 G2 t g ok => by
  have hq2 := t.sqT hq
  have rv2 := rv.mono t
  refine ⟨fun i hi => ?_, fun i v H' hi hy => ?_, ⟨vs, hq2, Nat.le_of_eq rv.length.symm⟩⟩
  · have hi' : i < xs.length := hi
    obtain ⟨y, e1, _⟩ := rv2.get (List.getElem?_eq_getElem hi')
    exact ⟨vs, y, hq2, e1⟩
  · obtain ⟨rfl, hy⟩ := hy
    obtain ⟨d, e1, e2⟩ := rv2.getV (hy vs hq2)
    exact ⟨.refl _, d, e1, e2⟩
theorem srcJ_str {K : Fg} {H1 : Hp} {z : Str} : SrcJ K H1 (.imm (signs z)) (Its z) := fun H2 G2 t g ok => by
  have hl : (signs z).length = z.cps.size := by simp [signs]
  refine ⟨fun i hi => ?_, fun i v H' hi hy => ?_, ?_⟩
  · have : i < (signs z).length := hi
    rw [hl] at this
    exact this
  · obtain ⟨rfl, c, hc, rfl⟩ := hy
    exact ⟨.refl _, .str ⟨#[c]⟩, by simp [Src.items, signs, hc], .str _⟩
  · show z.cps.size ≤ (signs z).length
    rw [hl]; exact Nat.le_refl _
theorem srcJ_rng {K : Fg} {H1 : Hp} {lo : Int} {n : Nat} : SrcJ K H1 (.imm ((List.range n).map fun (i : Nat) => .int (lo + (i : Int)))) (Itr lo n) := fun H2 G2 t g ok => by
  refine ⟨fun i hi => ?_, fun i v H' hi hy => ?_, ?_⟩
  · have hi' : i < n := by simpa [Src.items] using hi
    exact hi'
  · obtain ⟨rfl, rfl⟩ := hy
    have hi' : i < n := by simpa [Src.items] using hi
    exact ⟨.refl _, .int (lo + i), by simp [Src.items, hi'], .int _⟩
  · show n ≤ _
    simp [Src.items]
section
variable {X : Cx} {tg : Expr}
theorem PI.imp {e : Expr} {t t' : TI} (h : PI X tg e t) (k : ∀ σ H Q, t' σ H Q → t σ H Q) : PI X tg e t' := fun pins s σ H Q I q => h pins s σ H Q I (k _ _ _ q)
theorem i_any {l : Expr} {te : TE3} (hl : PE3 X l te) : PI3 X tg l (tiAny3 te) := by
  intro pins s σ H R I h
  obtain ⟨ρ, G, R3, sr, g, q, k⟩ := h
  refine thn (hl pins s σ H (fun v H1 => Ts H H1 ∧ ∃ x G1, RD X.K H1 x v ∧ HR X.K H1 G1 ∧ (match x with
    | .ref p => (match lsOf G1 p with
      | some xs => R3 (.lst p xs) G1
      | none => False)
    | .tup xs => R3 (.imm xs) G1
    | .str z => R3 (.imm (signs z)) G1
    | _ => False)) I ⟨ρ, G, _, sr, g, q, fun v H1 x G1 t1 r g1 q1 => ⟨t1, x, G1, r, g1, q1⟩⟩) fun v s1 ⟨x, H1, I1, r1, t1, d, G1, rd, g1, q1⟩ => ?_
  cases rd with
  | ref a =>
    have q1' : (match lsOf G1 a with
      | some xs => R3 (.lst a xs) G1
      | none => False) := q1
    split at q1'
    · rename_i xs e
      cases r1
      obtain ⟨vs, hq, rv⟩ := lsOf_sq g1 e
      obtain ⟨its, rv', p, hz⟩ := I1.list hq
      refine wpAny_pyIter_list p.isList ?_
      refine ⟨s1.heap.objs.size, [s1.heap.objs.size], _, _, H1, rfl, I1.kept (t' := s1.toks) fun b o e => Heap.get?_push_of_some _ e, turn_list a _, ⟨_, Heap.get?_push_size _ rfl, rfl, rfl⟩, fun b hb => ?_, k _ _ H1 G1 t1 g1 srcJ_list q1'⟩
      have e : b = s1.heap.objs.size := by simpa using hb
      subst e
      exact I1.fpOk (Nat.le_refl _) (I1.hok.fresh (Nat.le_refl _))
    · exact q1'.elim
  | @tup a vs xs hq rv =>
    cases r1
    obtain ⟨its, rv', p, hz⟩ := I1.tuple hq
    refine wpAny_pyIter_tuple (show s1.heap.IsTuple a its.toArray from p) ?_
    refine ⟨s1.heap.objs.size, [s1.heap.objs.size], _, _, H1, rfl, I1.kept (t' := s1.toks) fun b o e => Heap.get?_push_of_some _ e, turn_tuple a _, ⟨_, Heap.get?_push_size _ rfl, rfl, rfl⟩, fun b hb => ?_, k _ _ H1 G1 t1 g1 (srcJ_tup hq rv) q1⟩
    have e : b = s1.heap.objs.size := by simpa using hb
    subst e
    exact I1.fpOk (Nat.le_refl _) (I1.hok.fresh (Nat.le_refl _))
  | str z =>
    obtain ⟨t, rfl⟩ := r1
    cases ha : z.cps.all (· < 128)
    · refine wpAny_pyIter_wide ha ?_
      refine ⟨s1.heap.objs.size, [s1.heap.objs.size], _, _, H1, rfl, I1.kept (t' := s1.toks) fun b o e => Heap.get?_push_of_some _ e, turn_strW _ z t, ?_, fun b hb => ?_, k _ _ H1 G1 t1 g1 srcJ_str q1⟩
      · rw [Nat.zero_min]; exact ⟨_, Heap.get?_push_size _ rfl, rfl, rfl⟩
      · have e : b = s1.heap.objs.size := by simpa using hb
        subst e
        exact I1.fpOk (Nat.le_refl _) (I1.hok.fresh (Nat.le_refl _))
    · refine wpAny_pyIter_ascii ha ?_
      refine ⟨s1.heap.objs.size, [s1.heap.objs.size], _, _, H1, rfl, I1.kept (t' := s1.toks) fun b o e => Heap.get?_push_of_some _ e, turn_strA _ z t, ?_, fun b hb => ?_, k _ _ H1 G1 t1 g1 srcJ_str q1⟩
      · rw [Nat.zero_min]; exact ⟨_, Heap.get?_push_size _ rfl, rfl, rfl⟩
      · have e : b = s1.heap.objs.size := by simpa using hb
        subst e
        exact I1.fpOk (Nat.le_refl _) (I1.hok.fresh (Nat.le_refl _))
  | _ => exact q1.elim
def rngD (lo hi : Int) : List D := (List.range (hi - lo).toNat).map fun (i : Nat) => .int (lo + (i : Int))
def tiRng1 (ta : TA3) : TI3 := fun ρ G R => ta ρ G fun xs G1 => match xs with
  | [.int j] => -(2 ^ 62) ≤ j ∧ j < 2 ^ 62 ∧ R (.imm (rngD 0 j)) G1
  | _ => False
def tiRng2 (ta : TA3) : TI3 := fun ρ G R => ta ρ G fun xs G1 => match xs with
  | [.int i, .int j] => (-(2 ^ 62) ≤ i ∧ i < 2 ^ 62 ∧ -(2 ^ 62) ≤ j ∧ j < 2 ^ 62) ∧ R (.imm (rngD i j)) G1
  | _ => False
theorem i_rng1 {a : Expr} {ta : TA3} {p pos : Pos} (hg : Gl X "range") (hm : X.mg "range" = none) (ha : PA3 X [a] ta) (hs : starEach [a] X.env = [(false, eval a X.env)]) : PI3 X tg (.Call (.Name "range" p) [a] [] pos) (tiRng1 ta) :=
  PI.imp (pi_range1 hg hm ha hs) fun σ H Q h => by
  obtain ⟨ρ, G, R, s, g, q, k⟩ := h
  refine ⟨ρ, G, _, s, g, q, fun vs H1 ds G1 t1 r g1 h1 => ?_⟩
  cases r with
  | nil => exact h1.elim
  | cons r rr =>
    cases rr with
    | cons _ _ => cases r <;> exact False.elim h1
    | nil =>
      cases r with
      | int j =>
        obtain ⟨l1, l2, h1⟩ := h1
        refine ⟨j, rfl, l1, l2, k _ _ H1 G1 t1 g1 ?_ h1⟩
        unfold rngD
        rw [show (j - 0).toNat = j.toNat by omega]
        exact srcJ_rng
      | _ => exact False.elim h1
end
end L2
set_option Elab.async false
set_option linter.all false
set_option maxRecDepth 100000
set_option maxHeartbeats 4000000
namespace L2
open PySem PySem.Spec PyProof.Rows
/-! ### a comprehension's cells -/
def closL (cells : List (Str × Addr)) : List (Str × NameKind) → List (Str × Addr) → List (Str × Addr)
  | [], cs => cs
  | (n, k) :: r, cs => closL cells r (if k = .free then (match cells.lookup n with
    | some a => (n, a) :: cs
    | none => cs) else cs)
theorem closureFor_cells {scope : Scope} {env : Env} (h : ∀ y ∈ scope.names, y.2 = .free → ∃ c, env.cells.lookup y.1 = some c) : closureFor scope env = pure (closL env.cells scope.names []) := by
  unfold closureFor
  have all : ∀ (l : List (Str × NameKind)) (cs : List (Str × Addr)), (∀ y ∈ l, y.2 = .free → ∃ c, env.cells.lookup y.1 = some c) →
      (forIn l cs fun (x : Str × NameKind) (r : List (Str × Addr)) => (if (x.2 == NameKind.free) = true then do
        let a ← cellOf env x.1
        pure (ForInStep.yield ((x.1, a) :: r)) else pure (ForInStep.yield r) : Sem (ForInStep (List (Str × Addr))))) = (pure (closL env.cells l cs) : Sem (List (Str × Addr))) := by
    intro l
    induction l with
    | nil => intro cs _; rfl
    | cons y r ih =>
      intro cs hl
      obtain ⟨n, k⟩ := y
      rw [List.forIn_cons]
      by_cases hk : k = .free
      · subst hk
        obtain ⟨c, hc⟩ := hl (n, .free) (by simp) rfl
        have e : cellOf env n = pure c := by unfold cellOf; rw [hc]
        simp only [beq_self_eq_true, if_true, e]
        show (forIn r ((n, c) :: cs) _ : Sem _) = _
        rw [ih _ fun y hy => hl y (by simp [hy])]
        simp only [closL, if_true, hc]
      · have hk' : (k == NameKind.free) = false := by simpa using hk
        simp only [hk', Bool.false_eq_true, if_false]
        show (forIn r cs _ : Sem _) = _
        rw [ih _ fun y hy => hl y (by simp [hy])]
        simp only [closL, if_neg hk]
  have z := all scope.names [] h
  exact congrArg (fun m => m >>= fun cs => pure cs) z
theorem closL_sub {cells : List (Str × Addr)} : ∀ {l : List (Str × NameKind)} {cs : List (Str × Addr)} {y : Str} {c : Addr}, (closL cells l cs).lookup y = some c → (∀ c, cs.lookup y = some c → cells.lookup y = some c) → cells.lookup y = some c
  | [], cs, y, c, h, k => k c h
  | (n, kd) :: r, cs, y, c, h, k => by
    unfold closL at h
    refine closL_sub h fun c' h' => ?_
    by_cases hk : kd = .free
    · rw [if_pos hk] at h'
      split at h'
      · rename_i a ha
        rw [List.lookup_cons] at h'
        split at h'
        · rename_i e
          have e' : y = n := beq_iff_eq.mp e
          subst e'
          rw [ha]; exact h'
        · exact k c' h'
      · exact k c' h'
    · rw [if_neg hk] at h'
      exact k c' h'
theorem closL_keep {cells : List (Str × Addr)} : ∀ {l : List (Str × NameKind)} {cs : List (Str × Addr)} {y : Str}, (∃ c, cs.lookup y = some c) → ∃ c, (closL cells l cs).lookup y = some c
  | [], cs, y, h => h
  | (n, kd) :: r, cs, y, h => by
    unfold closL
    refine closL_keep ?_
    by_cases hk : kd = .free
    · rw [if_pos hk]
      split
      · rw [List.lookup_cons]
        split
        · exact ⟨_, rfl⟩
        · exact h
      · exact h
    · rw [if_neg hk]; exact h
theorem closL_has {cells : List (Str × Addr)} {y : Str} {c : Addr} (hc : cells.lookup y = some c) : ∀ {l : List (Str × NameKind)} {cs : List (Str × Addr)}, (y, NameKind.free) ∈ l → ∃ c, (closL cells l cs).lookup y = some c
  | [], cs, h => by simp at h
  | (n, kd) :: r, cs, h => by
    unfold closL
    rcases List.mem_cons.mp h with e | h
    · cases e
      refine closL_keep ?_
      rw [if_pos rfl, hc]
      simp
    · exact closL_has hc h
theorem mem_of_lookup {α : Type} : ∀ {l : List (Str × α)} {y : Str} {k : α}, l.lookup y = some k → (y, k) ∈ l
  | [], _, _, h => by simp at h
  | (n, kd) :: r, y, k, h => by
    rw [List.lookup_cons] at h
    split at h
    · rename_i e
      have e' : y = n := beq_iff_eq.mp e
      cases h; subst e'; simp
    · exact List.mem_cons_of_mem _ (mem_of_lookup h)
/-! ### what the block's names are -/
structure CompOk (X : Cx) (xs : List Str) (scope : Scope) : Prop where
  kind : scope.kind = .function
  nocell : ∀ y ∈ scope.names, y.2 ≠ .cell
  locs : ∀ y ∈ scope.names, y.2 = .local → scope.names.lookup y.1 = some .local
  var : ∀ x ∈ xs, scope.names.lookup x = some .local
  frees : ∀ y ∈ scope.names, y.2 = .free → X.env.kindOf y.1 = some .cell ∨ X.env.kindOf y.1 = some .free
  out : ∀ x ∈ xs, x ∉ X.N
  nd : xs.Nodup
  only : ∀ y ∈ X.N, scope.names.lookup y ≠ some .local
abbrev cmpX (X : Cx) (xs : List Str) (scope : Scope) (C : Addr) (s₃ : Shared) (H₃ : Hp) (fp : List Addr) (pins : List (Addr × Obj)) : Cx :=
  { X with N := xs ++ X.N, s₀ := s₃, H₀ := H₃, env := compEnvC scope (closL X.env.cells scope.names []) C X.env, outer := X.stack, stack := X.stack, ex := fp, fn := fun _ => false, pn := X.pn ++ pins, xe := fun _ _ => False }
/-- the block's own names have no value yet -/
def nn (xs : List Str) (σ : St) : St := xs.map (fun _ => none) ++ σ
theorem nn_get {xs : List Str} {σ : St} {i : Nat} {v : V} (h : (nn xs σ)[i]? = some (some v)) : ∃ j, i = xs.length + j ∧ σ[j]? = some (some v) := by
  unfold nn at h
  by_cases c : i < xs.length
  · rw [List.getElem?_append_left (by simpa using c)] at h
    simp at h
  · rw [List.getElem?_append_right (by simpa using c)] at h
    exact ⟨i - xs.length, by omega, by simpa using h⟩
theorem app_get {α : Type} {xs ys : List α} {j : Nat} : (xs ++ ys)[xs.length + j]? = ys[j]? := by
  rw [List.getElem?_append_right (by omega)]
  congr 1
  omega
theorem relabel_lookup {env : Env} {y : Str} {k : NameKind} : ∀ {names : List (Str × NameKind)}, (names.map fun (n, k) => if (k == .free && env.scope.kind == .function && env.kindOf n == some .cell) then (n, .cell) else (n, k)).lookup y = some k →
    ∃ k', names.lookup y = some k' ∧ (k = k' ∨ (k = .cell ∧ k' = .free))
  | [], h => by simp at h
  | (n, kd) :: r, h => by
    rw [List.map_cons] at h
    by_cases hc : (kd == .free && env.scope.kind == .function && env.kindOf n == some .cell) = true
    · have h' : List.lookup y ((n, NameKind.cell) :: (r.map fun (n, k) => if (k == .free && env.scope.kind == .function && env.kindOf n == some .cell) then (n, .cell) else (n, k))) = some k := by
        simp only [hc, if_true] at h; exact h
      rw [List.lookup_cons] at h' ⊢
      cases hx : y == n with
      | true =>
        rw [hx] at h'
        cases h'
        refine ⟨kd, rfl, .inr ⟨rfl, ?_⟩⟩
        simp only [Bool.and_eq_true, beq_iff_eq] at hc
        exact hc.1.1
      | false =>
        rw [hx] at h'
        exact relabel_lookup h'
    · have h' : List.lookup y ((n, kd) :: (r.map fun (n, k) => if (k == .free && env.scope.kind == .function && env.kindOf n == some .cell) then (n, .cell) else (n, k))) = some k := by
        simp only [hc, if_false] at h
        exact h
      rw [List.lookup_cons] at h' ⊢
      cases hx : y == n with
      | true =>
        rw [hx] at h'
        cases h'
        exact ⟨_, rfl, .inl rfl⟩
      | false =>
        rw [hx] at h'
        exact relabel_lookup h'
end L2
set_option Elab.async false
set_option linter.all false
set_option maxRecDepth 100000
set_option maxHeartbeats 4000000
namespace L2
open PySem PySem.Spec PyProof.Rows
section
variable {X : Cx} {xs : List Str} {scope : Scope} {C : Addr} {pins : List (Addr × Obj)} {σ : St} {H H₃ : Hp} {s s₃ : Shared} {fp : List Addr}
theorem cmp_stk (I : Inv X pins σ H s) {b : Addr} (hb : b ∈ frs X.stack) : b = X.env.locals ∨ b ∈ X.fs := List.mem_cons.mp (I.stkSub b hb)
theorem cmp_ok (I : Inv X pins σ H s) (c : CompOk X xs scope) (hC : s.heap.objs.size ≤ C) (hf : ∀ b ∈ fp, FpOk X pins H b ∧ b < s.heap.objs.size) : (cmpX X xs scope C s H fp pins).Ok where
  mod := I.ok.mod
  kind := c.kind
  glob := I.ok.glob
  blt := I.ok.blt
  above := hC
  inj := fun y z d h1 h2 => I.ok.inj y z d (closL_sub h1 fun _ h => by simp at h) (closL_sub h2 fun _ h => by simp at h)
  has := fun y h => by
    have hy : (y, NameKind.free) ∈ scope.names := by
      rcases h with h | h
      · obtain ⟨k', e, z⟩ := relabel_lookup (env := X.env) (names := scope.names) h
        rcases z with z | ⟨_, z⟩
        · subst z
          exact absurd rfl (c.nocell _ (mem_of_lookup e))
        · subst z; exact mem_of_lookup e
      · obtain ⟨k', e, z⟩ := relabel_lookup (env := X.env) (names := scope.names) h
        rcases z with z | ⟨z, _⟩
        · subst z; exact mem_of_lookup e
        · cases z
    obtain ⟨d, hd⟩ := I.ok.has y (c.frees _ hy rfl)
    exact closL_has hd hy
  cab := fun _ _ h => absurd h (by simp)
  hd := I.ok.hd
  frames := I.ok.frames
  stk := .inl rfl
  exf := fun b hb => by
    obtain ⟨⟨f0, f1, f2, f3, f4, f5⟩, lt⟩ := hf b hb
    exact ⟨Nat.ne_of_lt (Nat.lt_of_lt_of_le lt hC), fun y d h => f4 y d (closL_sub h fun _ h => by simp at h)⟩
  bs := fun b o e => I.bs b o e
  bsz := Nat.le_trans I.ok.bsz I.sz
  noex := fun b o e hb => by
    obtain ⟨⟨f0, f1, f2, f3, f4, f5⟩, lt⟩ := hf b hb
    rcases f3 with z | z
    · exact I.ok.noex b o e z
    · exact absurd (Nat.lt_of_lt_of_le (Heap.lt_size e) (Nat.le_trans I.ok.bsz z)) (Nat.lt_irrefl _)
  exfs := fun b hb hs => by
    obtain ⟨⟨f0, f1, f2, f3, f4, f5⟩, lt⟩ := hf b hb
    rcases cmp_stk I hs with z | z
    · exact f1 z
    · exact f2 z
  funs := I.stack
  frf := fun b hb => I.stkFree b hb
/-- the block begins -/
theorem cmp_in (I : Inv X pins σ H s) (c : CompOk X xs scope) (hC : s.heap.objs.size = C) (hf : ∀ b ∈ fp, FpOk X pins H b ∧ b < s.heap.objs.size) {h₁ : Heap} {m : Str → Option Value} {tk : Nat} (hn : h₁.Ns C m) (hk : ∀ b o, s.heap.get? b = some o → h₁.get? b = some o) :
    Inv (cmpX X xs scope C s H fp pins) [] (nn xs σ) H { s with heap := h₁, toks := tk } := by
  have lt : ∀ b o, s.heap.get? b = some o → b ≠ C := fun b o e => by rw [← hC]; exact Nat.ne_of_lt (Heap.lt_size e)
  refine ⟨cmp_ok I c (Nat.le_of_eq hC) hf, rfl, I.bare, Un.kept hk, ⟨m, hn, fun i y v e1 e2 e3 => ?_⟩, fun y d e => ?_, I.hok.fresh (Nat.le_of_eq hC), fun y d e => I.freeC y d (closL_sub e fun _ h => by simp at h), fun p hp => ?_, I.hok.kept hk, by simp [nn, I.len], I.hnd, I.tup⟩
  · obtain ⟨i, rfl, e2'⟩ := nn_get e2
    · have e1' : X.N[i]? = some y := app_get.symm.trans e1
      have hy : y ∈ X.N := List.mem_of_getElem? e1'
      have free : (y, NameKind.free) ∈ scope.names := by
        have e3' : ∃ k, (relabel scope X.env).names.lookup y = some k ∧ (k = .local ∨ k = .cell ∨ k = .free) := by
          rcases e3 with h | h | h
          · exact ⟨_, h, .inl rfl⟩
          · exact ⟨_, h, .inr (.inl rfl)⟩
          · exact ⟨_, h, .inr (.inr rfl)⟩
        obtain ⟨k, h, hk⟩ := e3'
        obtain ⟨k', e, z⟩ := relabel_lookup (env := X.env) (names := scope.names) h
        rcases z with z | ⟨_, z⟩
        · subst z
          rcases hk with rfl | rfl | rfl
          · exact absurd e (c.only y hy)
          · exact absurd rfl (c.nocell _ (mem_of_lookup e))
          · exact mem_of_lookup e
        · subst z; exact mem_of_lookup e
      have hkd := c.frees _ free rfl
      obtain ⟨m', hn', hlo⟩ := I.loc
      have vis : Vis X.env.scope y := hkd.elim (fun z => .inr (.inl z)) fun z => .inr (.inr z)
      obtain ⟨u, r, l⟩ := hlo i y v e1' e2' vis
      refine ⟨u, r, .inr ⟨?_, ?_⟩⟩
      · rcases e3 with h | h | h
        · obtain ⟨k', e, z⟩ := relabel_lookup (env := X.env) (names := scope.names) h
          rcases z with z | ⟨z, _⟩
          · subst z; exact absurd e (c.only y hy)
          · cases z
        · exact .inl h
        · exact .inr h
      · rcases l with ⟨hl, _⟩ | ⟨_, d, hd, hcell⟩
        · rcases hkd with z | z
          · rw [z] at hl; cases hl
          · rw [z] at hl; cases hl
        · obtain ⟨d', hd'⟩ := closL_has (cells := X.env.cells) (l := scope.names) (cs := []) hd free
          have := closL_sub hd' fun _ h => by simp at h
          rw [hd] at this; cases this
          refine ⟨d, hd', ?_⟩
          obtain ⟨o, ho, hod⟩ := hcell
          exact ⟨o, hk _ _ ho, hod⟩
  · obtain ⟨w, o, ho, hod⟩ := I.cell y d (closL_sub e fun _ h => by simp at h)
    exact ⟨w, o, hk _ _ ho, hod⟩
  · have hp' : p ∈ X.pn ++ pins := by simpa using hp
    obtain ⟨e, n, ne, nf, d⟩ := I.pin p hp'
    refine ⟨hk _ _ e, n, lt _ _ e, fun z => ?_, d⟩
    rcases cmp_stk I z with z | z
    · exact ne z
    · exact nf z
/-- behind the block: what stood at C may have turned -/
theorem cmp_out (I : Inv X pins σ H s) (hC : s.heap.objs.size = C) (hf : ∀ b ∈ fp, FpOk X pins H b ∧ b < s.heap.objs.size) {pins' : List (Addr × Obj)} {σ' : St} {H' : Hp} {s' : Shared} {h' : Heap} {tk : Nat} (J : Inv (cmpX X xs scope C s H fp pins) pins' σ' H' s') (hs : Heap.SameBut C s'.heap h') :
    Inv X pins σ H' { s' with heap := h', toks := tk } := by
  have ne : ∀ b o, s.heap.get? b = some o → b ≠ C := fun b o e => by rw [← hC]; exact Nat.ne_of_lt (Heap.lt_size e)
  have u : Un (frs X.stack) fp H H' s.heap s'.heap := J.base
  have hfree : H' C = none := J.free
  refine I.call' (ch := fp) J.os ⟨fun b o e n hb hx => ?_, fun b o e n hb hx => ?_, u.free, fun b o e hx => ?_, u.tups, u.frzs, u.tbls⟩ (fun b o e => ?_) J.bare (fun b hb => ?_)
  · exact (hs.2 b (ne b o e)).trans (u.keep b o e n hb hx)
  · obtain ⟨sl, e1⟩ := u.slot b o e n hb hx
    exact ⟨sl, (hs.2 b (ne b o e)).trans e1⟩
  · obtain ⟨o', e1⟩ := u.there b o e hx
    exact ⟨o', (hs.2 b (ne b o e)).trans e1⟩
  · refine (J.hok b o e).stay (fun d w hd q => (hs.2 d ?_).trans q) (fun _ q => q) fun _ _ q => q
    rintro rfl
    rcases hd with z | z
    · rw [z] at hfree; rw [e] at hfree; cases hfree
    · rw [hfree] at z; cases z
  · obtain ⟨⟨f0, f1, f2, f3, f4, f5⟩, lt⟩ := hf b hb
    exact ⟨f3, f1, f4, f5⟩
end
end L2
set_option Elab.async false
set_option linter.all false
set_option maxRecDepth 100000
set_option maxHeartbeats 4000000
namespace L2
open PySem PySem.Spec PyProof.Rows
def tTrue3 : TT3 := fun _ G R => R true G
def PIfs (X : Cx) (ifs : List Expr) (tc : TT3) : Prop :=
  ∀ (pins : List (Addr × Obj)) (s : Shared) (σ : St) (H : Hp) (Q : Bool → Hp → Prop), Inv X pins σ H s → upT X.K tc σ H Q →
    wpAny (model X.prog X.w) X.A (forIn ifs true fun c r => if r = true then do let ok ← isTrue c X.env (eval c X.env); pure (ForInStep.yield ok) else pure (ForInStep.yield r)) (TP X pins σ Q) X.xe s
theorem ifs_nil {X : Cx} : PIfs X [] tTrue3 := fun pins s σ H Q I h => by
  obtain ⟨ρ, G, R, sr, g, q, k⟩ := h
  exact wpAny_pure ⟨H, I, k true H G (.refl H) g q⟩
theorem ifs_one {X : Cx} {c : Expr} {tc : TT3} (hc : PT3 X c tc) : PIfs X [c] tc := fun pins s σ H Q I h => by
  rw [List.forIn_cons]
  simp only [if_true]
  refine wpAny_bind (wpAny_bind (thn (hc pins s σ H Q I h) fun b s1 q => ?_))
  exact wpAny_pure (wpAny_pure q)
section
variable {X : Cx} {x : Str} {xs : List Str} {tgt : Expr} {dv : D → Option (List D)} {scope : Scope} {iter elt : Expr} {ifs : List Expr} {px pos : Pos} {ti : TI3} {tc : TT3} {te : TE3}
/-- the block's own object -/
structure OwnC (X : Cx) (pins : List (Addr × Obj)) (H' : Hp) (C : Addr) (h : Heap) : Prop where
  ns : ∃ m, h.Ns C m
  free : H' C = none
  loc : C ≠ X.env.locals
  young : X.s₀.heap.objs.size ≤ C
  cells : ∀ y d, X.env.cells.lookup y = some d → d ≠ C
  pins : ∀ p ∈ X.pn ++ pins, p.1 ≠ C
theorem OwnC.turn {X : Cx} {pins : List (Addr × Obj)} {σ : St} {H' : Hp} {C : Addr} {s : Shared} (o : OwnC X pins H' C s.heap) (I : Inv X pins σ H' s) {h' : Heap} (hs : Heap.SameBut C s.heap h') : Inv X pins σ H' { s with heap := h' } :=
  I.turned (t' := s.toks) (fun b ob hb e => (hs.2 b hb).trans e) o.free o.loc (.inr o.young) o.cells o.pins
/-- a block's target: the turn's thing goes into the block's own names -/
def TgOk (Y : Cx) (tgt : Expr) (xs : List Str) (dv : D → Option (List D)) (σ : St) : Prop := ∀ (pins : List (Addr × Obj)) (s : Shared) (H : Hp) (v : V) (u : Value) (d : D) (ds : List D), Inv Y pins (nn xs σ) H s → RelV v u → RD Y.K H d v → dv d = some ds →
  wpAny (model Y.prog Y.w) Y.A (assign tgt Y.env u) (fun _ s' => ∃ vs, RDs Y.K H ds vs ∧ Inv Y pins (vs.map some ++ σ) H s') Y.xe s
theorem sr_app {K : Fg} {H : Hp} {ρ : St3} {σ : St} (s : SR K H ρ σ) : ∀ {ds : List D} {vs : List V}, RDs K H ds vs → SR K H (ds.map some ++ ρ) (vs.map some ++ σ)
  | _, _, .nil => s
  | _, _, .cons h r => .some h (sr_app s r)
theorem loop_own {prog : Program} {w : World} {A : Around} {R : Result → Shared → Prop} {s : Shared} {elt target iter : Expr} {ifs : List Expr} {scope : Scope} {pos : Pos} {it acc : Value} {env : Env} (J : Nat → Shared → Prop)
    (turn : ∀ n s, J n s → wpAny (model prog w) A (pyNext it) (fun r s1 => match r with
      | none => R (.ok .next) s1
      | some v => wpAny (model prog w) A (letOwnedTupleGo target it v) (fun _ s1' => wpAny (model prog w) A (assign target env v) (fun _ s2 =>
          wpAny (model prog w) A (forIn ifs true fun c r => if r = true then do let ok ← isTrue c env (eval c env); pure (ForInStep.yield ok) else pure (ForInStep.yield r)) (fun ok s3 =>
            if ok = true then wpAny (model prog w) A (eval elt env) (fun x s4 =>
              wpAny (model prog w) A (call (.builtin "list.append") [acc, x]) (fun _ s5 => ∃ m, m < n ∧ J m s5) (notedBy (model prog w) A env fun e s' => R (.error e) s') s4) (notedBy (model prog w) A env fun e s' => R (.error e) s') s3
            else ∃ m, m < n ∧ J m s3) (notedBy (model prog w) A env fun e s' => R (.error e) s') s2) (notedBy (model prog w) A env fun e s' => R (.error e) s') s1') (notedBy (model prog w) A env fun e s' => R (.error e) s') s1) (notedBy (model prog w) A env fun e s' => R (.error e) s') s)
    (n : Nat) (h : J n s) : codeAny (model prog w) A (.compLoop (.ListComp elt [⟨target, iter, ifs, 0⟩] scope pos) 0 it acc env) R s := by
  refine codeAny_loop rfl J (fun n s hJ => ?_) n h
  show wpAny _ A ((compTurn (.ListComp elt [⟨target, iter, ifs, 0⟩] scope pos) 0 it acc env).onRaise (fun z => do noteFrame z env; theTreesLotGoes z)) _ _ s
  refine wpAny_noted ?_
  rw [compTurn_list]
  refine wpAny_bind (wpAny_standAt (wpAny_bind (wpAny_mono (turn n s hJ) (fun r s1 h1 => ?_) fun _ _ z => z)))
  cases r with
  | none => exact wpAny_pure h1
  | some v =>
    refine wpAny_bind (wpAny_mono h1 (fun _ s1' h1' => ?_) fun _ _ z => z)
    refine wpAny_bind (wpAny_mono h1' (fun _ s2 h2 => wpAny_bind (wpAny_mono h2 (fun ok s3 h3 => ?_) fun _ _ z => z)) fun _ _ z => z)
    cases ok with
    | false => exact wpAny_pure ⟨rfl, h3⟩
    | true => exact wpAny_bind (wpAny_bind (wpAny_mono h3 (fun x s4 h4 => wpAny_bind (wpAny_mono h4 (fun _ s5 h5 => wpAny_pure (wpAny_pure ⟨rfl, h5⟩)) fun _ _ z => z)) fun _ _ z => z))
theorem comp_core (c : CompOk X xs scope) (hT : ∀ C s H fp pins σ, TgOk (cmpX X xs scope C s H fp pins) tgt xs dv σ) (hdv : ∀ d ds, dv d = some ds → ds.length = xs.length) (hc : ∀ C s H fp pins, PIfs (cmpX X xs scope C s H fp pins) ifs tc) (he : ∀ C s H fp pins, PE3 (cmpX X xs scope C s H fp pins) elt te)
    {pins : List (Addr × Obj)} {s2 : Shared} {σ : St} {H H2 : Hp} {ρ : St3} {G1 : Gp} {R : VK3} {it : Addr} {fp : List Addr} {tn : Nat → Heap → Prop} {J : It} {src : Src} {RR : Value → Addr → Result → Shared → Prop} (sr : SR X.K H ρ σ) (I2 : Inv X pins σ H2 s2) (T : Turn X.calm X.tp X.prog X.w X.K tgt J fp it tn) (st2 : tn 0 s2.heap) (f2 : ∀ b ∈ fp, FpOk X pins H2 b) (t1 : Ts H H2) (g1 : HR X.K H2 G1) (sj : SrcJ X.K H2 src J)
    (hlen : src.items.length < sizeLine) (body : ∀ p, G1 p = none → ∃ P : Nat → List D → Gp → Prop, P 0 [] (updG G1 p (.lst [])) ∧
      (∀ k ds G, k ≤ src.items.length → P k ds G → src.ok G ∧ G p = some (.lst ds) ∧ ds.length ≤ k) ∧
      (∀ k d ds G, src.items[k]? = some d → P k ds G → ∃ ys, dv d = some ys ∧ tc (ys.map some ++ ρ) G fun b G2 => if b = true then te (ys.map some ++ ρ) G2 fun y G3 => G3 p = some (.lst ds) ∧ P (k + 1) (ds ++ [y]) (updG G3 p (.lst (ds ++ [y]))) else P (k + 1) ds G2) ∧
      ∀ ds G, P src.items.length ds G → ∃ G0, Le G0 G ∧ R (.ref p) G0)
    (hRR : ∀ Da C s5 H' G0, Inv X pins σ H' s5 → OwnC X pins H' C s5.heap → Ts H H' → HR X.K H' G0 → R (.ref Da) G0 → RR (.ref Da) C (.ok .next) s5) :
    wpAny (model X.prog X.w) X.A (newList []) (fun acc s₃ => wpAny (model X.prog X.w) X.A (newFunctionEnv scope X.env.globals (closL X.env.cells scope.names []) [] X.env.qual none .none (some X.env)) (fun cenv s₄ =>
      codeAny (model X.prog X.w) X.A (.compStart (.ListComp elt [⟨tgt, iter, ifs, 0⟩] scope pos) 0 (.ref it) acc { cenv with scope := relabel scope X.env }) (RR acc cenv.locals) s₄) X.xe s₃) X.xe s2 := by
  refine wpAny_newObj_type ?_
  have I3 := I2.lnew (its := []) (ys := []) (t' := s2.toks) .nil (by decide)
  have hD : H2 s2.heap.objs.size = none := I2.fresh
  have kf := kf_of I3
  have gD : G1 s2.heap.objs.size = none := fresh3 g1 hD kf
  obtain ⟨P, p0, pok, pst, pend⟩ := body _ gD
  have ltD : ∀ b ∈ fp, b < s2.heap.objs.size := fun b hb => by
    obtain ⟨o, e, _⟩ := T.obj 0 _ st2 b hb
    exact Heap.lt_size e
  have hsz3 : (s2.heap.push { cls := .type "list", data := .seq ([] : List Value).toArray }).objs.size = s2.heap.objs.size + 1 := Heap.size_push ..
  have hf3 : ∀ b ∈ fp, FpOk X pins (upd H2 s2.heap.objs.size (.lst [])) b ∧ b < (s2.heap.push { cls := .type "list", data := .seq ([] : List Value).toArray }).objs.size := fun b hb => by
    obtain ⟨f0, fr⟩ := f2 b hb
    exact ⟨⟨by rw [upd_ne (Nat.ne_of_lt (ltD b hb))]; exact f0, fr⟩, by rw [hsz3]; exact Nat.lt_succ_of_lt (ltD b hb)⟩
  refine wpAny_newFunctionEnv c.nocell (by intro y hy; simp at hy) (fun h₁ hns₁ hsb₁ => ?_) c.kind
  dsimp only at hns₁ hsb₁ ⊢
  generalize hH3 : s2.heap.push { cls := .type "list", data := .seq ([] : List Value).toArray } = h3 at *
  generalize hDe : s2.heap.objs.size = Da at *
  have keep1 : ∀ b o, h3.get? b = some o → h₁.get? b = some o := fun b o e => hsb₁.extBut b o (Nat.ne_of_lt (Heap.lt_size e)) (Heap.get?_push_of_some _ e)
  show codeAny (model X.prog X.w) X.A (Code.compStart (elt.ListComp [{ target := tgt, iter := iter, ifs := ifs, is_async := 0 }] scope pos) 0 (Value.ref it) (Value.ref Da) (compEnvC scope (closL X.env.cells scope.names []) h3.objs.size X.env))
    (RR (.ref Da) h3.objs.size) { s2 with heap := h₁, toks := s2.toks + ([] : List (Str × Value)).length }
  have J0 := cmp_in (tk := s2.toks + ([] : List (Str × Value)).length) I3 c rfl hf3 hns₁ keep1
  have st1 : tn 0 h₁ := T.keep _ _ _ st2 fun b hb o e => keep1 b o (by rw [← hH3]; exact Heap.get?_push_of_some _ e)
  have g0 : HR X.K (upd H2 Da (.lst [])) (updG G1 Da (.lst [])) := g1.put (u := .lst []) hD ⟨[], upd_same, .nil⟩
  have ts0 : Ts H2 (upd H2 Da (.lst [])) := .same (same_new hD)
  -- the loop
  have loop : ∀ s₄ : Shared, Inv (cmpX X xs scope h3.objs.size { s2 with heap := h3, toks := s2.toks } (upd H2 Da (.lst [])) fp pins) [] (nn xs σ) (upd H2 Da (.lst [])) s₄ → tn 0 s₄.heap →
      codeAny (model X.prog X.w) X.A (.compLoop (.ListComp elt [⟨tgt, iter, ifs, 0⟩] scope pos) 0 (.ref it) (.ref Da) (compEnvC scope (closL X.env.cells scope.names []) h3.objs.size X.env)) (RR (.ref Da) h3.objs.size) s₄ := by
    intro s₄ J4 st4
    refine loop_own (fun n s' => ∃ i ds H' G', Inv (cmpX X xs scope h3.objs.size { s2 with heap := h3, toks := s2.toks } (upd H2 Da (.lst [])) fp pins) [] (nn xs σ) H' s' ∧ tn i s'.heap ∧ (∀ b ∈ fp, H' b = none) ∧ HR X.K H' G' ∧ P i ds G' ∧ i ≤ src.items.length ∧ n = src.items.length - i ∧ Ts H2 H') (fun n s' hI => ?_) src.items.length
      ⟨0, [], _, _, J4, st4, fun b hb => (hf3 b hb).1.1, g0, p0, Nat.zero_le _, by simp, ts0⟩
    obtain ⟨i, ds, H', G', J, st, fr, g', p, hi', rfl, ts⟩ := hI
    obtain ⟨ok, hDl, hdl⟩ := pok i ds G' hi' p
    obtain ⟨sgo, syld, sstop⟩ := sj H' G' ts g' ok
    have fpX : ∀ {H' : Hp}, (∀ b ∈ fp, H' b = none) → ∀ b ∈ fp, FpOk (cmpX X xs scope h3.objs.size { s2 with heap := h3, toks := s2.toks } (upd H2 Da (.lst [])) fp pins) [] H' b := fun hn b hb => by
      obtain ⟨⟨f0, f1, f2', f3, f4, f5⟩, lt⟩ := hf3 b hb
      refine ⟨hn b hb, Nat.ne_of_lt lt, fun hs => ?_, .inl hb, fun y d e => f4 y d (closL_sub e fun _ h => by simp at h), fun p' hp' => f5 p' (by simpa using hp')⟩
      rcases cmp_stk I3 hs with z | z
      · exact f1 z
      · exact f2' z
    by_cases hlt : i < src.items.length
    · refine wpAny_mono (T.item (cmpX X xs scope h3.objs.size { s2 with heap := h3, toks := s2.toks } (upd H2 Da (.lst [])) fp pins) rfl rfl rfl (fun h => h) (fun _ h => h) i [] s' (nn xs σ) H' (fun _ _ => False) J (fpX fr) st (sgo i hlt)) (fun r s5 ⟨u, hr, h5⟩ => ?_) fun _ _ z => z.elim
      subst hr
      obtain ⟨d0, ys, hd0, ey, pst'⟩ : ∃ d ys, src.items[i]? = some d ∧ dv d = some ys ∧ tc (ys.map some ++ ρ) G' fun b G2 => if b = true then te (ys.map some ++ ρ) G2 fun y G3 => G3 Da = some (.lst ds) ∧ P (i + 1) (ds ++ [y]) (updG G3 Da (.lst (ds ++ [y]))) else P (i + 1) ds G2 := by
        have hd : src.items[i]? = some src.items[i] := List.getElem?_eq_getElem hlt
        obtain ⟨ys, e, z⟩ := pst i _ ds G' hd p
        exact ⟨_, ys, hd, e, z⟩
      show wpAny _ _ (letOwnedTupleGo tgt (.ref it) u) _ _ s5
      refine wpAny_mono h5 (fun _ s6 ⟨vx, H6, I6, r6, y6, st6, fr6⟩ => ?_) fun _ _ z => z.elim
      obtain ⟨sm, d, hd, rd⟩ := syld i vx H6 hlt y6
      have g' := g'.same sm
      have ts := ts.trans (.same sm)
      obtain rfl : d0 = d := Option.some.inj (hd0.symm.trans hd)
      have I6' := I6.pinned (fpX fr6) (T.obj _ _ st6)
      refine wpAny_mono (hT _ _ _ _ _ _ _ s6 H6 vx u _ _ I6' r6 rd ey) (fun _ s7 ⟨vs, rvs, I7⟩ => ?_) fun _ _ z => z.elim
      have lv : vs.length = xs.length := by rw [← rvs.length]; exact hdv _ _ ey
      have keepTn : ∀ {s'' : Shared} {σ'' : St} {H'' : Hp}, Inv (cmpX X xs scope h3.objs.size { s2 with heap := h3, toks := s2.toks } (upd H2 Da (.lst [])) fp pins) ([] ++ pinsAt fp s6.heap) σ'' H'' s'' → tn (i + 1) s''.heap ∧ ∀ b ∈ fp, H'' b = none := fun I'' => by
        refine ⟨T.keep _ _ _ st6 fun b hb o e => (I''.pin (b, o) (List.mem_append_right _ (List.mem_append_right _ (mem_pinsAt hb e)))).1, fun b hb => ?_⟩
        obtain ⟨o, e, _⟩ := T.obj _ _ st6 b hb
        exact (I''.pin (b, o) (List.mem_append_right _ (List.mem_append_right _ (mem_pinsAt hb e)))).2.1
      have down : ∀ {s'' : Shared} {H'' : Hp}, Inv (cmpX X xs scope h3.objs.size { s2 with heap := h3, toks := s2.toks } (upd H2 Da (.lst [])) fp pins) ([] ++ pinsAt fp s6.heap) (vs.map some ++ σ) H'' s'' → Inv (cmpX X xs scope h3.objs.size { s2 with heap := h3, toks := s2.toks } (upd H2 Da (.lst [])) fp pins) [] (nn xs σ) H'' s'' := fun I'' =>
        I''.unpinned.weak (by simp [nn, lv]) fun j v e => by
          obtain ⟨j', rfl, e'⟩ := nn_get e
          rw [← lv, show vs.length = (vs.map some).length by simp, app_get]
          exact e'
      have sr7 : SR X.K H6 (ys.map some ++ ρ) (vs.map some ++ σ) := sr_app (sr.mono (t1.trans ts)) rvs
      refine wpAny_mono (hc _ _ _ _ _ _ s7 (vs.map some ++ σ) H6 (fun b H8 => Ts H6 H8 ∧ ∃ G8, HR X.K H8 G8 ∧ (if b = true then te (ys.map some ++ ρ) G8 fun y G3 => G3 Da = some (.lst ds) ∧ P (i + 1) (ds ++ [y]) (updG G3 Da (.lst (ds ++ [y]))) else P (i + 1) ds G8)) I7
        ⟨ys.map some ++ ρ, G', _, sr7, g', pst', fun b H8 G8 t8 g8 q8 => ⟨t8, G8, g8, q8⟩⟩) (fun b s8 ⟨H8, I8, t8, G8, g8, q8⟩ => ?_) fun _ _ z => z.elim
      cases b with
      | false =>
        rw [if_neg (by decide)]
        have q8' : P (i + 1) ds G8 := by simpa using q8
        obtain ⟨a1, a2⟩ := keepTn I8
        exact ⟨src.items.length - (i + 1), by omega, i + 1, ds, H8, G8, down I8, a1, a2, g8, q8', hlt, rfl, ts.trans t8⟩
      | true =>
        rw [if_pos rfl]
        have q8' : te (ys.map some ++ ρ) G8 fun y G3 => G3 Da = some (.lst ds) ∧ P (i + 1) (ds ++ [y]) (updG G3 Da (.lst (ds ++ [y]))) := by simpa using q8
        refine wpAny_mono (he _ _ _ _ _ _ s8 (vs.map some ++ σ) H8 (fun vy H9 => Ts H8 H9 ∧ ∃ y G9, RD X.K H9 y vy ∧ HR X.K H9 G9 ∧ G9 Da = some (.lst ds) ∧ P (i + 1) (ds ++ [y]) (updG G9 Da (.lst (ds ++ [y])))) I8 ⟨ys.map some ++ ρ, G8, _, sr7.mono t8, g8, q8', fun vy H9 y G9 t9 r9 g9 q9 => ⟨t9, y, G9, r9, g9, q9⟩⟩) (fun uy s9 ⟨vy, H9, I9, ry, t9, y, G9, ryd, g9, hG9, q9⟩ => ?_) fun _ _ z => z.elim
        obtain ⟨ws, hH9, rws⟩ := g9 Da _ hG9
        have hlen9 : ws.length < sizeLine := by rw [← rws.length]; omega
        refine wpAny_mono (mt_append (X := cmpX X xs scope h3.objs.size { s2 with heap := h3, toks := s2.toks } (upd H2 Da (.lst [])) fp pins) _ s9 (vs.map some ++ σ) H9 (.ref Da) [vy] (.ref Da) [uy] (fun _ H10 => H10 = upd H9 Da (.lst (ws ++ [vy]))) I9 rfl (.cons ry .nil) ⟨Da, ws, vy, rfl, rfl, hH9, hlen9, rfl⟩) (fun _ s10 ⟨_, H10, I10, _, e10⟩ => ?_) fun _ _ z => z.elim
        subst e10
        obtain ⟨a1, a2⟩ := keepTn I10
        have tt : Ts H9 (upd H9 Da (.lst (ws ++ [vy]))) := .turn hH9 (fun _ z => nomatch z) (fun _ _ z => nomatch z)
        exact ⟨src.items.length - (i + 1), by omega, i + 1, ds ++ [y], _, _, down I10, a1, a2, g9.turn (u := .lst (ds ++ [y])) tt ⟨_, upd_same, (rws.append (.cons ryd .nil)).mono tt⟩, q9, hlt, rfl, ((ts.trans t8).trans t9).trans tt⟩
    · have ein : i = src.items.length := by omega
      subst ein
      refine wpAny_mono (T.done (cmpX X xs scope h3.objs.size { s2 with heap := h3, toks := s2.toks } (upd H2 Da (.lst [])) fp pins) rfl rfl rfl (fun h => h) (fun _ h => h) _ [] s' (nn xs σ) H' (fun _ _ => False) J (fpX fr) st sstop) (fun r s5 ⟨hr, J5⟩ => ?_) fun _ _ z => z.elim
      subst hr
      obtain ⟨m5, hn5, _⟩ := id J5.loc
      obtain ⟨G0, l0, q0⟩ := pend ds G' p
      have I5 : Inv X pins σ H' s5 := cmp_out (tk := s5.toks) I3 rfl hf3 J5 (Heap.SameBut.refl _ _)
      refine hRR Da _ s5 H' G0 I5 ⟨⟨m5, hn5⟩, J5.free, Nat.ne_of_gt I3.lt, I3.sz, fun y d e z => ?_, fun p hp z => ?_⟩ (t1.trans ts) (g'.le l0) q0
      · obtain ⟨w, o, ho, _⟩ := I3.cell y d e
        rw [z] at ho
        exact absurd (Heap.lt_size ho) (Nat.lt_irrefl _)
      · have := (I3.pin p hp).1
        rw [z] at this
        exact absurd (Heap.lt_size this) (Nat.lt_irrefl _)
  exact codeAny_compStart_list (loop _ J0 st1) (T.self X.A 0 _ _ _ st1 (loop _ J0 st1))
def tCompG3 (dv : D → Option (List D)) (ti : TI3) (tc : TT3) (te : TE3) : TE3 := fun ρ G R => ti ρ G fun src G1 => src.items.length < sizeLine ∧ ∀ p, G1 p = none → ∃ P : Nat → List D → Gp → Prop, P 0 [] (updG G1 p (.lst [])) ∧
  (∀ k ds G, k ≤ src.items.length → P k ds G → src.ok G ∧ G p = some (.lst ds) ∧ ds.length ≤ k) ∧
  (∀ k d ds G, src.items[k]? = some d → P k ds G → ∃ ys, dv d = some ys ∧ tc (ys.map some ++ ρ) G fun b G2 => if b = true then te (ys.map some ++ ρ) G2 fun y G3 => G3 p = some (.lst ds) ∧ P (k + 1) (ds ++ [y]) (updG G3 p (.lst (ds ++ [y]))) else P (k + 1) ds G2) ∧
  ∀ ds G, P src.items.length ds G → ∃ G0, Le G0 G ∧ R (.ref p) G0
def oneV (d : D) : Option (List D) := some [d]
abbrev tComp3 (ti : TI3) (tc : TT3) (te : TE3) : TE3 := tCompG3 oneV ti tc te
def tupV (n : Nat) (d : D) : Option (List D) := match d with
  | .tup ds => if ds.length = n then some ds else none
  | _ => none
abbrev tCompT3 (n : Nat) (ti : TI3) (tc : TT3) (te : TE3) : TE3 := tCompG3 (tupV n) ti tc te
theorem oneV_len (d : D) (ds : List D) (h : oneV d = some ds) : ds.length = [x].length := by
  unfold oneV at h; cases h; rfl
theorem cmp_nd {N : List Str} (c : CompOk X xs scope) (hnd : X.N.Nodup) : (xs ++ X.N).Nodup := List.nodup_append.mpr ⟨c.nd, hnd, fun a ha b hb e => c.out a ha (e ▸ hb)⟩
theorem tg_one (c : CompOk X [x] scope) (hnd : X.N.Nodup) {C : Addr} {s : Shared} {H : Hp} {fp : List Addr} {pins : List (Addr × Obj)} {σ : St} : TgOk (cmpX X [x] scope C s H fp pins) (.Name x px) [x] oneV σ := by
  intro pins' s' H' v u d ds I r rd e
  unfold oneV at e
  cases e
  have pgn : PG (cmpX X [x] scope C s H fp pins) (.Name x px) (gName 0) := pg_name (cmp_nd (N := X.N) c hnd) rfl (.inl (lookup_relabel_local (c.var x (by simp)))) (.inr (lookup_relabel_local (c.var x (by simp))))
  refine wpAny_mono (pgn pins' s' (nn [x] σ) H' v u (fun σ' H2 => σ' = [v].map some ++ σ ∧ H2 = H') I r ⟨rfl, rfl⟩) (fun _ s2 ⟨σ2, H2, I2, e2, e3⟩ => ?_) fun _ _ z => z
  subst e2; subst e3
  exact ⟨[v], .cons rd .nil, I2⟩
theorem p_compG (c : CompOk X xs scope) (hT : ∀ C s H fp pins σ, TgOk (cmpX X xs scope C s H fp pins) tgt xs dv σ) (hdv : ∀ d ds, dv d = some ds → ds.length = xs.length) (hi : PI3 X tgt iter ti) (hc : ∀ C s H fp pins, PIfs (cmpX X xs scope C s H fp pins) ifs tc) (he : ∀ C s H fp pins, PE3 (cmpX X xs scope C s H fp pins) elt te)
    (hs : ∀ y, foldedSetIterable iter X.env y = pure y) : PE3 X (.ListComp elt [⟨tgt, iter, ifs, 0⟩] scope pos) (tCompG3 dv ti tc te) := by
  intro pins s σ H Q I h
  obtain ⟨ρ, G, R, sr, g, q, kk⟩ := h
  rw [eval_ListComp]
  refine wpAny_comprehension_free (use := none) rfl hs (closureFor_cells fun y hy hf => I.ok.has y.1 (c.frees y hy hf)) c.kind c.locs ?_
  refine thn (hi pins s σ H (fun J H1 => Ts H H1 ∧ ∃ src G1, HR X.K H1 G1 ∧ SrcJ X.K H1 src J ∧ (src.items.length < sizeLine ∧ ∀ p, G1 p = none → ∃ P : Nat → List D → Gp → Prop, P 0 [] (updG G1 p (.lst [])) ∧
      (∀ k ds G, k ≤ src.items.length → P k ds G → src.ok G ∧ G p = some (.lst ds) ∧ ds.length ≤ k) ∧
      (∀ k d ds G, src.items[k]? = some d → P k ds G → ∃ ys, dv d = some ys ∧ tc (ys.map some ++ ρ) G fun b G2 => if b = true then te (ys.map some ++ ρ) G2 fun y G3 => G3 p = some (.lst ds) ∧ P (k + 1) (ds ++ [y]) (updG G3 p (.lst (ds ++ [y]))) else P (k + 1) ds G2) ∧
      ∀ ds G, P src.items.length ds G → ∃ G0, Le G0 G ∧ R (.ref p) G0)) I ⟨ρ, G, _, sr, g, q, fun src J H' G' t1 g1 sj q1 => ⟨t1, src, G', g1, sj, q1⟩⟩) fun v s1 h1 => thn h1 fun itv s2 ⟨it, fp, tn, J, H2, e, I2, T, st2, f2, t1, src, G1, g1, sj, hlen, body⟩ => ?_
  subst e
  exact comp_core (RR := fun acc C => compPost (model X.prog X.w) X.A X.xe none (EP X pins σ Q) acc C) c hT hdv hc he sr I2 T st2 f2 t1 g1 sj hlen body fun Da C s5 H' G0 I5 o ts g0 q0 => by
    obtain ⟨m, hn⟩ := o.ns
    exact ⟨m, hn, fun h' hs' => ⟨.ref Da, H', o.turn I5 hs', rfl, kk _ H' _ G0 ts (.ref Da) g0 q0⟩⟩
end
end L2
set_option Elab.async false
set_option linter.all false
set_option maxRecDepth 100000
set_option maxHeartbeats 4000000
namespace L2
open PySem PySem.Spec PyProof.Rows
/-! ### targets -/
abbrev TG3 := D → St3 → (St3 → Prop) → Prop
def upG (K : Fg) (t : TG3) : TG := fun v σ H Q => ∃ ρ d R, SR K H ρ σ ∧ RD K H d v ∧ t d ρ R ∧ ∀ ρ' σ', SR K H ρ' σ' → R ρ' → Q σ' H
abbrev PG3 (X : Cx) (tg : Expr) (t : TG3) : Prop := PG X tg (upG X.K t)
def gName3 (i : Nat) : TG3 := fun d ρ Q => Q (set3 ρ i d)
def sets3 : St3 → List Nat → List D → St3
  | ρ, i :: is, d :: ds => sets3 (set3 ρ i d) is ds
  | ρ, _, _ => ρ
def gTup3 (is : List Nat) : TG3 := fun d ρ Q => match d with
  | .tup ds => ds.length = is.length ∧ Q (sets3 ρ is ds)
  | _ => False
def setsV : St → List Nat → List V → St
  | σ, i :: is, v :: vs => setsV (σ.set i (some v)) is vs
  | σ, _, _ => σ
theorem SR.sets {K : Fg} {H : Hp} : ∀ {is : List Nat} {ds : List D} {vs : List V} {ρ : St3} {σ : St}, RDs K H ds vs → SR K H ρ σ → SR K H (sets3 ρ is ds) (setsV σ is vs)
  | [], _, _, _, _, _, s => s
  | _ :: _, _, _, _, _, .nil, s => s
  | i :: is, _, _, _, _, .cons h r, s => SR.sets (is := is) r (s.set h i)
section
variable {X : Cx}
theorem PG.imp {e : Expr} {t t' : TG} (h : PG X e t) (k : ∀ v σ H Q, t' v σ H Q → t v σ H Q) : PG X e t' := fun pins s σ H v u Q I r q => h pins s σ H v u Q I r (k _ _ _ _ q)
theorem g_name {i : Nat} {x : Str} {pos : Pos} (hN : X.N.Nodup) (hi : X.N[i]? = some x) (hx : Loc X.env.scope x) (hf : X.fn x = true ∨ X.env.scope.names.lookup x = some .local) : PG3 X (.Name x pos) (gName3 i) :=
  PG.imp (pg_name hN hi hx hf) fun v σ H Q h => by
  obtain ⟨ρ, d, R, s, r, q, k⟩ := h
  exact k _ _ (s.set r i) q
/-- plain names, each with its slot -/
structure NmOk (X : Cx) (e : Expr) (i : Nat) : Prop where
  ex : ∃ x pos, e = .Name x pos ∧ X.N[i]? = some x ∧ Loc X.env.scope x ∧ (X.fn x = true ∨ X.env.scope.names.lookup x = some .local)
def gSeq : List Nat → TGs
  | [] => gNil
  | i :: is => gCons (gName i) (gSeq is)
theorem gSeq_of : ∀ {is : List Nat} {vs : List V} {σ : St} {H : Hp} {Q : St → Hp → Prop}, vs.length = is.length → Q (setsV σ is vs) H → gSeq is vs σ H Q
  | [], [], _, _, _, _, q => ⟨rfl, q⟩
  | [], _ :: _, _, _, _, h, _ => by simp at h
  | _ :: _, [], _, _, _, h, _ => by simp at h
  | i :: is, v :: vs, σ, H, Q, h, q => ⟨v, vs, rfl, gSeq_of (is := is) (by simpa using h) q⟩
theorem pgs_names (hN : X.N.Nodup) : ∀ {es : List Expr} {is : List Nat}, Two (NmOk X) es is → PGs X es (gSeq is) ∧ (assignEach es X.env).length = is.length ∧ (assignEach es X.env).findIdx? (·.1) = none
  | _, _, .nil => ⟨pgs_nil, rfl, rfl⟩
  | _, _, .cons (a := e) (b := i) h r => by
    obtain ⟨x, pos, rfl, h1, h2, h3⟩ := h.ex
    obtain ⟨a1, a2, a3⟩ := pgs_names hN r
    refine ⟨pgs_cons (pg_name hN h1 h2 h3) a1 rfl, ?_, ?_⟩
    · show (assignEach _ X.env).length + 1 = _
      rw [a2]; rfl
    · show ((false, assign (.Name x pos) X.env) :: assignEach _ X.env).findIdx? (·.1) = none
      rw [List.findIdx?_cons]
      simp [a3]
theorem g_tup {es : List Expr} {is : List Nat} {k : Nat} {pos : Pos} (hN : X.N.Nodup) (hc : X.calm = true) (h : Two (NmOk X) es is) : PG3 X (.Tuple es k pos) (gTup3 is) := by
  obtain ⟨a1, a2, a3⟩ := pgs_names hN h
  refine PG.imp (pg_tup hc a1 a2 a3) fun v σ H Q h => ?_
  obtain ⟨ρ, d, R, s, r, q, k⟩ := h
  cases r with
  | @tup a vs ds hq rv =>
    have q' : ds.length = is.length ∧ R (sets3 ρ is ds) := q
    exact ⟨a, vs, rfl, hq, by rw [← rv.length]; exact q'.1, gSeq_of (by rw [← rv.length]; exact q'.1) (k _ _ (SR.sets rv s) q'.2)⟩
  | _ => exact False.elim q
/-! ### for: a list, a text's signs, a range -/
def SrcS (K : Fg) (src : Src) (J : It) : Prop := ∀ H2 G2, HR K H2 G2 → src.ok G2 →
  (∀ i, i < src.items.length → J.go i H2) ∧ (∀ i v H', i < src.items.length → J.yld i H2 v H' → Same H2 H' ∧ ∃ d, src.items[i]? = some d ∧ RD K H' d v) ∧ J.stop src.items.length H2
def upIS (K : Fg) (t : TI3) : TI := fun σ H Q => ∃ ρ G R, SR K H ρ σ ∧ HR K H G ∧ t ρ G R ∧ ∀ src J H' G', Ts H H' → HR K H' G' → SrcS K src J → R src G' → Q J H'
abbrev PIS (X : Cx) (tg iter : Expr) (t : TI3) : Prop := PI X tg iter (upIS X.K t)
def tiS3 (te : TE3) : TI3 := fun ρ G R => te ρ G fun x G1 => match x with
  | .ref p => (match lsOf G1 p with
    | some xs => R (.lst p xs) G1
    | none => False)
  | .str z => R (.imm (signs z)) G1
  | _ => False
theorem srcS_list {K : Fg} {p : Addr} {xs : List D} : SrcS K (.lst p xs) (Itl K p) := fun H2 G2 g ok => srcJ_list (H1 := H2) H2 G2 (.refl _) g ok
theorem srcS_str {K : Fg} {z : Str} : SrcS K (.imm (signs z)) (Its z) := fun H2 G2 g ok => srcJ_str (H1 := H2) H2 G2 (.refl _) g ok
theorem srcS_rng {K : Fg} {lo : Int} {n : Nat} : SrcS K (.imm ((List.range n).map fun (i : Nat) => .int (lo + (i : Int)))) (Itr lo n) := fun H2 G2 g ok => srcJ_rng (H1 := H2) H2 G2 (.refl _) g ok
theorem is_any {tg l : Expr} {te : TE3} (hl : PE3 X l te) : PIS X tg l (tiS3 te) := by
  intro pins s σ H R I h
  obtain ⟨ρ, G, R3, sr, g, q, k⟩ := h
  refine thn (hl pins s σ H (fun v H1 => Ts H H1 ∧ ∃ x G1, RD X.K H1 x v ∧ HR X.K H1 G1 ∧ (match x with
    | .ref p => (match lsOf G1 p with
      | some xs => R3 (.lst p xs) G1
      | none => False)
    | .str z => R3 (.imm (signs z)) G1
    | _ => False)) I ⟨ρ, G, _, sr, g, q, fun v H1 x G1 t1 r g1 q1 => ⟨t1, x, G1, r, g1, q1⟩⟩) fun v s1 ⟨x, H1, I1, r1, t1, d, G1, rd, g1, q1⟩ => ?_
  cases rd with
  | ref a =>
    have q1' : (match lsOf G1 a with
      | some xs => R3 (.lst a xs) G1
      | none => False) := q1
    split at q1'
    · rename_i xs e
      cases r1
      obtain ⟨vs, hq, rv⟩ := lsOf_sq g1 e
      obtain ⟨its, rv', p, hz⟩ := I1.list hq
      refine wpAny_pyIter_list p.isList ?_
      refine ⟨s1.heap.objs.size, [s1.heap.objs.size], _, _, H1, rfl, I1.kept (t' := s1.toks) fun b o e => Heap.get?_push_of_some _ e, turn_list a _, ⟨_, Heap.get?_push_size _ rfl, rfl, rfl⟩, fun b hb => ?_, k _ _ H1 G1 t1 g1 srcS_list q1'⟩
      have e : b = s1.heap.objs.size := by simpa using hb
      subst e
      exact I1.fpOk (Nat.le_refl _) (I1.hok.fresh (Nat.le_refl _))
    · exact q1'.elim
  | str z =>
    obtain ⟨t, rfl⟩ := r1
    cases ha : z.cps.all (· < 128)
    · refine wpAny_pyIter_wide ha ?_
      refine ⟨s1.heap.objs.size, [s1.heap.objs.size], _, _, H1, rfl, I1.kept (t' := s1.toks) fun b o e => Heap.get?_push_of_some _ e, turn_strW _ z t, ?_, fun b hb => ?_, k _ _ H1 G1 t1 g1 srcS_str q1⟩
      · rw [Nat.zero_min]; exact ⟨_, Heap.get?_push_size _ rfl, rfl, rfl⟩
      · have e : b = s1.heap.objs.size := by simpa using hb
        subst e
        exact I1.fpOk (Nat.le_refl _) (I1.hok.fresh (Nat.le_refl _))
    · refine wpAny_pyIter_ascii ha ?_
      refine ⟨s1.heap.objs.size, [s1.heap.objs.size], _, _, H1, rfl, I1.kept (t' := s1.toks) fun b o e => Heap.get?_push_of_some _ e, turn_strA _ z t, ?_, fun b hb => ?_, k _ _ H1 G1 t1 g1 srcS_str q1⟩
      · rw [Nat.zero_min]; exact ⟨_, Heap.get?_push_size _ rfl, rfl, rfl⟩
      · have e : b = s1.heap.objs.size := by simpa using hb
        subst e
        exact I1.fpOk (Nat.le_refl _) (I1.hok.fresh (Nat.le_refl _))
  | _ => exact q1.elim
theorem is_rng1 {tg a : Expr} {ta : TA3} {p pos : Pos} (hg : Gl X "range") (hm : X.mg "range" = none) (ha : PA3 X [a] ta) (hs : starEach [a] X.env = [(false, eval a X.env)]) : PIS X tg (.Call (.Name "range" p) [a] [] pos) (tiRng1 ta) :=
  PI.imp (pi_range1 hg hm ha hs) fun σ H Q h => by
  obtain ⟨ρ, G, R, s, g, q, k⟩ := h
  refine ⟨ρ, G, _, s, g, q, fun vs H1 ds G1 t1 r g1 h1 => ?_⟩
  cases r with
  | nil => exact h1.elim
  | cons r rr =>
    cases rr with
    | cons _ _ => cases r <;> exact False.elim h1
    | nil =>
      cases r with
      | int j =>
        obtain ⟨l1, l2, h1⟩ := h1
        refine ⟨j, rfl, l1, l2, k _ _ H1 G1 t1 g1 ?_ h1⟩
        unfold rngD
        rw [show (j - 0).toNat = j.toNat by omega]
        exact srcS_rng
      | _ => exact False.elim h1
def tForG3 (ti : TI3) (tg : TG3) (tb : TS3) : TS3 := fun F ρ G => ti ρ G fun src G1 => ∃ P : Nat → St3 → Gp → Prop, P 0 ρ G1 ∧ (∀ k ρ G, k ≤ src.items.length → P k ρ G → src.ok G) ∧
  (∀ k d ρ G, src.items[k]? = some d → P k ρ G → tg d ρ fun ρ2 => tb { F with nx := P (k + 1), ct := P (k + 1), bk := F.nx } ρ2 G) ∧ ∀ ρ G, P src.items.length ρ G → F.nx ρ G
theorem s_forG {tgt iter : Expr} {body : List Stmt} {ti : TI3} {tg : TG3} {tb : TS3} {pos : Pos} (hp : PassesOwn (model X.prog X.w) X.A X.env X.xe) (hi : PIS X tgt iter ti) (hg : PG3 X tgt tg) (hb : PSs3 X body tb)
    (hs : ∀ x, foldedSetIterable iter X.env x = pure x) : PS3 X (.For tgt iter body [] pos) (tForG3 ti tg tb) := PS.imp (ps_for hp hi hg hb hs) fun F σ H h => by
  obtain ⟨ρ, G, E, s, g, q, d⟩ := h
  refine ⟨ρ, G, fun src G1 => ∃ P : Nat → St3 → Gp → Prop, P 0 ρ G1 ∧ (∀ k ρ G, k ≤ src.items.length → P k ρ G → src.ok G) ∧
    (∀ k d ρ G, src.items[k]? = some d → P k ρ G → tg d ρ fun ρ2 => tb { E with nx := P (k + 1), ct := P (k + 1), bk := E.nx } ρ2 G) ∧ ∀ ρ G, P src.items.length ρ G → E.nx ρ G, s, g, q, fun src J H1 G1 t1 g1 sj ⟨P, p0, pok, pst, pend⟩ => ?_⟩
  refine for_core (K := X.K) (n := src.items.length) (fun k σ2 H2 => ∃ ρ' G', SR X.K H2 ρ' σ2 ∧ HR X.K H2 G' ∧ P k ρ' G') ⟨ρ, G1, s.mono t1, g1, p0⟩ (fun σ2 H2 ⟨ρ', G', s2, g2, p⟩ => ?_) (fun k σ2 H2 hk ⟨ρ', G', s2, g2, p⟩ => ?_) (fun k y σ2 H2 H3 hk ⟨ρ', G', s2, g2, p⟩ hy => ?_)
    (fun σ2 H2 ⟨ρ', G', s2, g2, p⟩ => d.nx ρ' G' σ2 H2 s2 g2 (pend ρ' G' p))
  · exact (sj H2 G' g2 (pok _ ρ' G' (Nat.le_refl _) p)).2.2
  · exact (sj H2 G' g2 (pok _ ρ' G' (Nat.le_of_lt hk) p)).1 k hk
  · obtain ⟨sm, dk, e1, e2⟩ := (sj H2 G' g2 (pok _ ρ' G' (Nat.le_of_lt hk) p)).2.1 k y H3 hk hy
    refine ⟨ρ', dk, _, s2.mono (.same sm), e2, pst k dk ρ' G' e1 p, fun ρ2 σ3 s3 q3 => ?_⟩
    exact ⟨ρ2, G', _, s3, g2.same sm, q3, ⟨fun ρ4 G4 σ4 H4 s4 g4 q4 => ⟨ρ4, G4, s4, g4, q4⟩, d.rt, d.nx, fun ρ4 G4 σ4 H4 s4 g4 q4 => ⟨ρ4, G4, s4, g4, q4⟩⟩⟩
end
end L2
set_option Elab.async false
set_option linter.all false
set_option maxRecDepth 100000
set_option maxHeartbeats 4000000
namespace L2
open PySem PySem.Spec PyProof.Rows
def isBl : D → Bool
  | .bl _ => true
  | _ => false
def isTr : D → Bool
  | .bl b => b
  | _ => false
def r_all : List D → Gp → VK3 → Prop := fun xs G R => match xs with
  | [.ref q] => (match lsOf G q with
    | some ds => ds.all isBl = true ∧ R (.bl (ds.all isTr)) G
    | none => False)
  | _ => False
def r_any : List D → Gp → VK3 → Prop := fun xs G R => match xs with
  | [.ref q] => (match lsOf G q with
    | some ds => ds.all isBl = true ∧ R (.bl (ds.any isTr)) G
    | none => False)
  | _ => False
def trN (ds : List D) (i : Nat) : Bool := match ds[i]? with
  | some d => isTr d
  | none => false
section
variable {X : Cx}
def on2 (xs : List D) (f : Int → Int → Prop) : Prop := match xs with
  | [.int i, .int j] => f i j
  | _ => False
def r_min : List D → Gp → VK3 → Prop := fun xs G R => on2 xs fun i j => R (.int (if j < i then j else i)) G
def r_max : List D → Gp → VK3 → Prop := fun xs G R => on2 xs fun i j => R (.int (if i < j then j else i)) G
/-! ### join -/
def strsD : List D → Option (List Str)
  | [] => some []
  | .str z :: r => (strsD r).map (z :: ·)
  | _ => none
def r_join : RM3 := fun x xs G R => match x, xs with
  | .str z, [.ref q] => (match (lsOf G q).bind strsD with
    | some ys => (ys.map (·.length)).sum + ys.length * z.length ≤ 16777216 ∧ R (.str (Txt.join z ys)) G
    | none => False)
  | _, _ => False
theorem strs_are {K : Fg} {H : Hp} : ∀ {ds : List D} {vs : List V} {us : List Value} {ys : List Str}, RDs K H ds vs → Vals vs us → strsD ds = some ys → StrsAre us ys
  | [], _, _, _, .nil, .nil, e => by cases e; exact .nil
  | .str z :: r, _, _, ys, .cons (.str _) rr, .cons hu hr, e => by
    unfold strsD at e
    cases q : strsD r with
    | none => rw [q] at e; cases e
    | some zs =>
      rw [q] at e
      cases e
      obtain ⟨t, rfl⟩ := hu
      exact .cons z t (strs_are rr hr q)
  | .non :: _, _, _, _, _, _, e => by cases e
  | .bl _ :: _, _, _, _, _, _, e => by cases e
  | .int _ :: _, _, _, _, _, _, e => by cases e
  | .tup _ :: _, _, _, _, _, _, e => by cases e
  | .ref _ :: _, _, _, _, _, _, e => by cases e
  | .ty _ :: _, _, _, _, _, _, e => by cases e
theorem m_join : MtR3 X "str.join" r_join := fun pins s σ H x xs vx vs u us G R Q I rx rs ru rv g q k => by
  cases rx with
  | str z =>
    cases rs with
    | nil => exact False.elim q
    | cons r rr =>
      cases rr with
      | cons _ _ => cases r <;> exact False.elim q
      | nil =>
        cases r with
        | ref a =>
          obtain ⟨t, rfl⟩ := ru
          obtain ⟨u2, rfl, ru2⟩ := vals1 rv
          cases ru2
          have q' : (match (lsOf G a).bind strsD with
            | some ys => (ys.map (·.length)).sum + ys.length * z.length ≤ 16777216 ∧ R (.str (Txt.join z ys)) G
            | none => False) := q
          split at q'
          · rename_i ys e1
            obtain ⟨ds, e2, e3⟩ := Option.bind_eq_some_iff.mp e1
            obtain ⟨ws, hq, r1⟩ := lsOf_sq g e2
            obtain ⟨its, rv', p, hz⟩ := I.list hq
            exact join_list p.isList (strs_are r1 rv' e3) q'.1 fun t' kk => ⟨.str _, H, I.tok kk, ⟨t', rfl⟩, k _ H _ G (.refl H) (.str _) g q'.2⟩
          · exact q'.elim
        | _ => exact False.elim q
  | _ =>
    cases rs with
    | nil => exact False.elim q
    | cons r rr => cases rr <;> cases r <;> exact False.elim q
end
end L2
set_option Elab.async false
set_option linter.all false
set_option maxRecDepth 100000
set_option maxHeartbeats 4000000
namespace L2
open PySem PySem.Spec PyProof.Rows
def onN (x : D) (f : Int → Prop) : Prop := match x with
  | .int k => f k
  | _ => False
section
variable {X : Cx} {pos : Pos}
/-! ### a, b = e -/
def tSetT3 (is : List Nat) (te : TE3) : TS3 := fun F ρ G => te ρ G fun d G1 => gTup3 is d ρ fun ρ2 => F.nx ρ2 G1
/-! ### x += e of ints -/
def tAug3 (i : Nat) (f : Int → Int → Int) (te : TE3) : TS3 := fun F ρ G => tVar3 i ρ G fun x G0 => onN x fun a => te ρ G0 fun y G1 => onN y fun b => F.nx (set3 ρ i (.int (f a b))) G1
/-! ### while -/
def tWhile3 (c : TT3) (tb : TS3) : TS3 := fun F ρ G => ∃ W : Nat → St3 → Gp → Prop, (∃ m, W m ρ G) ∧ ∀ m ρ G, W m ρ G → c ρ G fun b G1 => if b = true then tb { F with nx := fun ρ' G' => ∃ m', m' < m ∧ W m' ρ' G', ct := fun ρ' G' => ∃ m', m' < m ∧ W m' ρ' G', bk := F.nx } ρ G1 else F.nx ρ G1
theorem s_while {c : Expr} {body : List Stmt} {tc : TT3} {tb : TS3} (hp : PassesOwn (model X.prog X.w) X.A X.env X.xe) (hc : PT3 X c tc) (hb : PSs3 X body tb) : PS3 X (.While c body [] pos) (tWhile3 tc tb) := PS.imp (ps_while hp hc hb) fun F σ H h => by
  obtain ⟨ρ, G, E, s, g, ⟨W, ⟨m0, w0⟩, turn⟩, d⟩ := h
  refine ⟨fun m σ H => ∃ ρ G, SR X.K H ρ σ ∧ HR X.K H G ∧ W m ρ G, ⟨m0, ρ, G, s, g, w0⟩, fun m σ1 H1 ⟨ρ1, G1, s1, g1, w1⟩ => ⟨ρ1, G1, _, s1, g1, turn m ρ1 G1 w1, fun b H2 G2 t2 g2 q2 => ?_⟩⟩
  cases b with
  | true =>
    rw [if_pos rfl]
    rw [if_pos rfl] at q2
    refine ⟨fun σ' H' => ∃ ρ' G', SR X.K H' ρ' σ' ∧ HR X.K H' G' ∧ ∃ m', m' < m ∧ W m' ρ' G', fun σ' H' ⟨ρ', G', s', g', m', hm, w'⟩ => ⟨m', hm, ρ', G', s', g', w'⟩, ρ1, G2, _, s1.mono t2, g2, q2, ?_⟩
    exact ⟨fun ρ' G' σ' H' s' g' q' => ⟨ρ', G', s', g', q'⟩, d.rt, d.nx, fun ρ' G' σ' H' s' g' q' => ⟨ρ', G', s', g', q'⟩⟩
  | false => exact d.nx _ _ _ _ (s1.mono t2) g2 (by simpa using q2)
end
/-! ### sum, max, min of a list of ints -/
/-- of a list: P; of other things: O -/
def on1L (xs : List D) (G : Gp) (P : List D → Prop) (O : Prop) : Prop := match xs with
  | [.ref q] => (match lsOf G q with
    | some ds => P ds
    | none => False)
  | _ => O
def r_sum : List D → Gp → VK3 → Prop := fun xs G R => on1L xs G (fun ds => ∃ ns : List Int, ds = ns.map D.int ∧ R (.int ns.sum) G) False
section
variable {X : Cx}
theorem int_list {s : Shared} {a : Addr} {zs : List (Int × Tok)} (p : s.heap.IsList a (zs.map fun p => Value.int p.1 p.2).toArray) : s.heap.IsList a (intItems zs.toArray) := by
  have : intItems zs.toArray = (zs.map fun p => Value.int p.1 p.2).toArray := by simp [intItems]
  rw [this]; exact p
def r_max' : List D → Gp → VK3 → Prop := fun xs G R => on1L xs G (fun ds => ∃ ns : List Int, ds = ns.map D.int ∧ ns ≠ [] ∧ ∀ M, M ∈ ns → (∀ a ∈ ns, a ≤ M) → R (.int M) G) (r_max xs G R)
def r_min' : List D → Gp → VK3 → Prop := fun xs G R => on1L xs G (fun ds => ∃ ns : List Int, ds = ns.map D.int ∧ ns ≠ [] ∧ ∀ M, M ∈ ns → (∀ a ∈ ns, M ≤ a) → R (.int M) G) (r_min xs G R)
end
end L2
set_option Elab.async false
set_option linter.all false
set_option maxRecDepth 100000
set_option maxHeartbeats 4000000
namespace L2
open PySem PySem.Spec PyProof.Rows
/-! ### == of sequences with lists in them -/
def ok2 (G : Gp) (x y : D) : Bool := match x, y with
  | .ref p, .ref q => (match lsOf G p, lsOf G q with
    | some xs, some ys => xs.all (shal 17) && ys.all (shal 17)
    | _, _ => false)
  | x, y => shal 18 x && shal 18 y
def eq2 (G : Gp) (x y : D) : Bool := match x, y with
  | .ref p, .ref q => (match lsOf G p, lsOf G q with
    | some xs, some ys => eqPs xs ys
    | _, _ => false)
  | x, y => eqP x y
def ok2s (G : Gp) : List D → List D → Bool
  | x :: xs, y :: ys => ok2 G x y && ok2s G xs ys
  | _, _ => true
def eq2s (G : Gp) : List D → List D → Bool
  | [], [] => true
  | x :: xs, y :: ys => eq2 G x y && eq2s G xs ys
  | _, _ => false
def nthF (f : D → D → Bool) (xs ys : List D) (j : Nat) : Bool := match xs[j]?, ys[j]? with
  | some a, some b => f a b
  | _, _ => false
section
variable {X : Cx}
def eqG2 (G : Gp) (x y : D) (k : Bool → Prop) : Prop := match x, y with
  | .tup xs, .tup ys => ok2s G xs ys = true ∧ k (eq2s G xs ys)
  | .ref a, .ref b => (match lsOf G a, lsOf G b with
    | some xs, some ys => ok2s G xs ys = true ∧ k (eq2s G xs ys)
    | _, _ => False)
  | _, _ => False
def rEqD3 : R3 := fun x y G R => eqG2 G x y fun b => R (.bl b) G
def rNeD3 : R3 := fun x y G R => eqG2 G x y fun b => R (.bl (!b)) G
/-! ### list methods -/
def onLst (x : D) (G : Gp) (f : Addr → List D → Prop) : Prop := match x with
  | .ref p => (match G p with
    | some (.lst ds) => f p ds
    | _ => False)
  | _ => False
def r_pop : RM3 := fun x xs G R => match xs with
  | [] => onLst x G fun p ds => match ds[ds.length - 1]? with
    | some d => R d (updG G p (.lst ds.dropLast))
    | none => False
  | _ => False
def r_clear : RM3 := fun x xs G R => match xs with
  | [] => onLst x G fun p _ => R .non (updG G p (.lst []))
  | _ => False
end
end L2
set_option Elab.async false
set_option linter.all false
set_option maxRecDepth 100000
set_option maxHeartbeats 4000000
namespace L2
open PySem PySem.Spec PyProof.Rows
/-! ### C(..): an exception, not raised -/
section
variable {X : Cx} {C : Addr} {bmB bmN : List Value} {B Bn newId nid initId inN : String} {x : Str} {np cpos : Pos} {e : Expr} {es : List Expr} {t : TA3}
def tExc3 (C : Addr) (t : TA3) : TE3 := fun ρ G R => t ρ G fun ds G1 => ds.length ≤ sizeLine ∧ ∀ x, G1 x = none → R (.ref x) (updG G1 x (.exn C))
theorem exc_made {pins : List (Addr × Obj)} {σ : St} {H : Hp} {s : Shared} {h' : Heap} {x : Addr} {us : List Value} (I : Inv X pins σ H s) (hm : Heap.MadeExcOf s.heap h' x (.ref C) us) :
    ∃ o vs, H x = none ∧ Inv X pins σ (upd H x (.frz o (.ext (ExnAt C x)))) { s with heap := h' } ∧ o.data = .fields vs ∧ vs[2]? = some .none := by
  obtain ⟨t, e1, _, _⟩ := hm.there
  have nxH : H x = none := hok_free I.hok hm.new
  refine ⟨{ cls := .ref C, data := .fields #[.ref t, .none, .none, .none, .bool false, .none] }, #[.ref t, .none, .none, .none, .bool false, .none], nxH, ?_, rfl, rfl⟩
  generalize ho : ({ cls := .ref C, data := .fields #[.ref t, .none, .none, .none, .bool false, .none] } : Obj) = o at e1
  have sn : Same H (upd H x (.frz o (.ext (ExnAt C x)))) := same_new nxH
  have nst : ∀ b u, s.heap.get? b = some u → b ≠ x := fun b u e z => by subst z; rw [hm.new] at e; cases e
  refine I.call' (ch := []) (s' := { s with heap := h' }) rfl ⟨fun b u e n _ _ => hm.keeps b u e, fun b u e n _ _ => ⟨u.slots, hm.keeps b u e⟩, fun b u e n _ => by rw [upd_ne (nst b u e)]; exact n, fun b u e _ => ⟨u, hm.keeps b u e⟩, fun b xs z => sn _ _ z, fun b u v z => sn _ _ z, fun b ps z => ⟨#[], by rw [Array.append_empty]; exact sn _ _ z⟩⟩ (fun b u e => ?_) I.bare fun b z => absurd z (by simp)
  by_cases hb : b = x
  · subst hb
    rw [upd_same] at e; cases e
    exact ⟨e1, ⟨o, _, e1, by rw [← ho], by rw [← ho]⟩, ⟨o, e1⟩, fun h1 h2 ⟨o1, w1, e1, e2, e3⟩ k => ⟨o1, w1, k _ e1, e2, e3⟩⟩
  · rw [upd_ne hb] at e
    exact ((I.hok.kept hm.keeps) b u e).stay (fun _ _ _ z => z) (fun c z => sn _ _ z) fun c xs z => sn _ _ z
theorem exc_call {pins : List (Addr × Obj)} {σ : St} {H : Hp} {s : Shared} {us : List Value} {G : Gp} {R : VK3} {Q : VK} (Fn : ExcBaseFacts Bn newId inN bmN) (hBn : bmB.contains (.type Bn) = true) (FB : ExcBaseFacts B nid initId bmB) (hq : PySem.W.excIn X.K C bmB newId = true) (I : Inv X pins σ H s) (g : HR X.K H G) (hl : us.length ≤ sizeLine) (q : ∀ x, G x = none → R (.ref x) (updG G x (.exn C)))
    (k : ∀ v H' d G', Ts H H' → RD X.K H' d v → HR X.K H' G' → R d G' → Q v H') : wpAny (model X.prog X.w) X.A (call (.ref C) us) (EP X pins σ Q) X.xe s := by
  obtain ⟨tl, N, nm, q', bs, hdct, sn, sub, ab, col, dd', k0, k1, k2, k3, k5, mN, hC, hN, hni, T⟩ := exc_obj I.mod.kin hq
  obtain ⟨h, g0, d0, t0, os0⟩ := s
  refine wpAny_call_exc_subU (hrest := hl) Fn hBn FB (T.keeps I.bk) (I.bk _ _ hC) (hN.keeps I.bk) hni fun h' x hm => ?_
  obtain ⟨o, vs, nx, J, d1, d2⟩ := exc_made I hm
  have sn : Same H (upd H x (.frz o (.ext (ExnAt C x)))) := same_new nx
  exact ⟨.ref x, _, J, rfl, k _ _ _ _ (.same sn) (.ref x) (g.put (u := .exn C) nx ⟨o, vs, upd_same, d1, d2⟩) (q x (fresh3 (K := X.K) g nx (kf_of (X := X) J)))⟩
/-- C(e, ..) -/
theorem p_exc (Fn : ExcBaseFacts Bn newId inN bmN) (hBn : bmB.contains (.type Bn) = true) (FB : ExcBaseFacts B nid initId bmB) (hg : Gl X x) (hm : X.mg x = some (.ref C)) (hq : PySem.W.excIn X.K C bmB newId = true) (ha : PA3 X (e :: es) t) (hd : (x == ("__debug__" : Str)) = false)
    (he : starEach (e :: es) X.env = (false, eval e X.env) :: starEach es X.env) (hpl : (backTo cpos (starEach es X.env)).any (·.1) = false) : PE3 X (.Call (.Name x np) (e :: es) [] cpos) (tExc3 C t) := by
  intro pins s σ H Q I h
  obtain ⟨ρ, G, R, sr, g, q, kk⟩ := h
  obtain ⟨tl, N, nm, q', bs, hdct, sn, sub, ab, col, dd', k0, k1, k2, k3, k5, mN, hC, hN, hni, T⟩ := exc_obj I.mod.kin hq
  refine wpAny_Call_ofName (ld_glob I hg hm ?_ hd)
  unfold callWith
  have hA := ha cpos pins s σ H (fun vs H1 => Ts H H1 ∧ ∃ ds G1, RDs X.K H1 ds vs ∧ HR X.K H1 G1 ∧ ds.length ≤ sizeLine ∧ ∀ x, G1 x = none → R (.ref x) (updG G1 x (.exn C))) I ⟨ρ, G, _, sr, g, q, fun vs H1 ds G1 t1 r1 g1 q1 => ⟨t1, ds, G1, r1, g1, q1.1, q1.2⟩⟩
  have hp2 : (backTo cpos (starEach (e :: es) X.env)).any (·.1) = false := by rw [he]; show (false || (backTo cpos (starEach es X.env)).any (·.1)) = false; rw [hpl]; rfl
  rw [he] at hA hp2 ⊢
  refine wpAny_bind (wpAny_holding (Calls.evalArgs_plain (thn hA fun us s2 ⟨vs, H2, I2, r2, t1, ds, G1, r1, g1, hl, q1⟩ => wpAny_bind (wpAny_standAt ?_))))
  have hl2 : us.length ≤ sizeLine := by rw [← r2.length, ← r1.length]; exact hl
  simp only [hp2]
  obtain ⟨h0, g0, d0, t0, os0⟩ := s2
  refine wpAny_bind (wpAny_keeperOf_exc (I2.bk _ _ hC) ?_)
  refine wpAny_bind (thn (exc_call Fn hBn FB hq I2 g1 hl2 q1 fun v H' d G' t3 => kk v H' d G' (t1.trans t3)) fun v s3 q3 => wpAny_bind (wpAny_holding (wpAny_point (wpAny_pure q3))))
/-- C() -/
theorem p_exc0 (Fn : ExcBaseFacts Bn newId inN bmN) (hBn : bmB.contains (.type Bn) = true) (FB : ExcBaseFacts B nid initId bmB) (hg : Gl X x) (hm : X.mg x = some (.ref C)) (hq : PySem.W.excIn X.K C bmB newId = true) (hd : (x == ("__debug__" : Str)) = false) : PE3 X (.Call (.Name x np) [] [] cpos) (tExc3 C tNil3) := by
  intro pins s σ H Q I h
  obtain ⟨ρ, G, R, sr, g, ⟨hl, q⟩, kk⟩ := h
  obtain ⟨tl, N, nm, q', bs, hdct, sn, sub, ab, col, dd', k0, k1, k2, k3, k5, mN, hC, hN, hni, T⟩ := exc_obj I.mod.kin hq
  refine wpAny_Call_ofName (ld_glob I hg hm ?_ hd)
  unfold callWith
  refine wpAny_bind (wpAny_holding (PySem.evalArgs_none (wpAny_bind (wpAny_standAt ?_))))
  obtain ⟨h0, g0, d0, t0, os0⟩ := s
  refine wpAny_bind (wpAny_keeperOf_exc (I.bk _ _ hC) ?_)
  refine wpAny_bind (thn (exc_call (us := []) Fn hBn FB hq I g (Nat.zero_le _) q kk) fun v s3 q3 => wpAny_bind (wpAny_holding (wpAny_point (wpAny_pure q3))))
end
end L2
set_option Elab.async false
set_option linter.all false
set_option maxRecDepth 100000
set_option maxHeartbeats 4000000
namespace L2
open PySem PySem.Spec PyProof.Rows
/-! ### attributes of instances -/
def fldK (C : Addr) (f : Str) (x : D) (G : Gp) (R : VK3) : Prop := match x with
  | .ref a => (match G a with
    | some (.ins C' fs) => C' = C ∧ (match fs.lookup f with
      | some d => R d G
      | none => False)
    | _ => False)
  | _ => False
def tFld3 (C : Addr) (ta : TE3) (f : Str) : TE3 := fun ρ G R => ta ρ G fun x G1 => fldK C f x G1 R
def putF3 (f : Str) (d : D) : List (Str × D) → List (Str × D)
  | [] => [(f, d)]
  | (g, x) :: r => if g = f then (g, d) :: r else (g, x) :: putF3 f d r
section
variable {X : Cx} {o e value : Expr} {f : Str} {C : Addr} {pos pos' : Pos} {ta tv : TE3}
def sFldK (C : Addr) (f : Str) (x y : D) (F : Ends3) (ρ : St3) (G : Gp) : Prop := match x with
  | .ref a => (match G a with
    | some (.ins C' fs) => C' = C ∧ fs.length < 1000 ∧ F.nx ρ (updG G a (.ins C (putF3 f y fs)))
    | _ => False)
  | _ => False
def tSetF3 (C : Addr) (ta tv : TE3) (f : Str) : TS3 := fun F ρ G => tv ρ G fun y G1 => ta ρ G1 fun x G2 => sFldK C f x y F ρ G2
end
/-! ### calls with defaults, methods, new instances -/
section
variable {X : Cx} {qt : Bool} {k : Nat} {f C : Addr} {fd : FuncData} {ps : List Str} {sp : Sp3} {EX : St3 → EXK} {x m : Str} {p pos apos : Pos} {o e : Expr} {es : List Expr} {t : TA3} {ta : TE3} {dd : List D} {dvs : List V} {ds : List Value}
def methK (C : Addr) (m : Str) (x : D) (G : Gp) : Prop := ∃ a fs, x = .ref a ∧ G a = some (.ins C fs) ∧ fs.lookup m = none
/-- o.m(..) of an instance of the class at C; dd: the defaults -/
def tMethX (C : Addr) (m : Str) (sp : Sp3) (dd : List D) (EX : St3 → EXK) (ta : TE3) (t : TA3) : TE3 := fun ρ G R => ta ρ G fun x G1 => methK C m x G1 ∧ t ρ G1 fun ds G2 => sp (x :: (ds ++ dd)) G2 R (EX ρ)
/-- C(..): a new instance, then its __init__ -/
def tMakeX (C : Addr) (sp : Sp3) (dd : List D) (EX : St3 → EXK) (t : TA3) : TE3 := fun ρ G R => t ρ G fun ds G1 => ∀ x, G1 x = none → sp (.ref x :: (ds ++ dd)) (updG G1 x (.ins C [])) (fun v G2 => v = .non ∧ R (.ref x) G2) (EX ρ)
theorem run_make3 {pins : List (Addr × Obj)} {σ : St} {H : Hp} {s : Shared} {G : Gp} {R : VK3} {Q : VK} {us : List Value} {vs : List V} {ds2 : List D} {ρ : St3} (M : Mk X.K C f) (F : FnOk qt X.prog X.w X.K X.mg X.base (CX1 X.prog X.w) k f fd ps (upSp X.K sp)) (hr : Room qt (k + 1) X.A) (hb : Binds X.K fd ps ds) (hd : Vals dvs ds) (hdd : ∀ H, RDs X.K H dd dvs) (hx : Cat X EX)
    (I : Inv X pins σ H s) (sr : SR X.K H ρ σ) (g : HR X.K H G) (r : Vals vs us) (r2 : RDs X.K H ds2 vs) (h : ∀ x, G x = none → sp (.ref x :: (ds2 ++ dd)) (updG G x (.ins C [])) (fun v G2 => v = .non ∧ R (.ref x) G2) (EX ρ))
    (hQ : ∀ v H' d G', Ts H H' → RD X.K H' d v → HR X.K H' G' → R d G' → Q v H') : wpAny (model X.prog X.w) X.A (call (.ref C) us) (EP X pins σ Q) X.xe s := by
  have n1 : H (s.heap.objs.size + 1) = none := I.hok.fresh (Nat.le_succ _)
  have n0 : H s.heap.objs.size = none := I.hok.fresh (Nat.le_refl _)
  have ne : s.heap.objs.size + 1 ≠ s.heap.objs.size := Nat.succ_ne_self _
  have I2 := Inv.made (C := C) I
  have kl : X.K.lookup (s.heap.objs.size + 1) = none := by
    cases q : X.K.lookup (s.heap.objs.size + 1) with
    | none => rfl
    | some u => have := kf_of I2 _ u q; rw [upd_same] at this; cases this
  have gn : G (s.heap.objs.size + 1) = none := fresh3 (o := .ins C s.heap.objs.size []) g n1 fun b u e => by
    by_cases c : b = s.heap.objs.size + 1
    · subst c; rw [kl] at e; cases e
    · rw [upd_ne c]; exact kf_of I b u e
  have t1 : Ts H (upd H s.heap.objs.size (.own (s.heap.objs.size + 1))) := .same (same_new n0)
  have n1' : upd H s.heap.objs.size (.own (s.heap.objs.size + 1)) (s.heap.objs.size + 1) = none := by rw [upd_ne ne]; exact n1
  have t2 : Ts (upd H s.heap.objs.size (.own (s.heap.objs.size + 1))) (upd (upd H s.heap.objs.size (.own (s.heap.objs.size + 1))) (s.heap.objs.size + 1) (.ins C s.heap.objs.size [])) := .same (same_new n1')
  have g1 : HR X.K (upd H s.heap.objs.size (.own (s.heap.objs.size + 1))) G := g.same (same_new n0)
  have g2 : HR X.K (upd (upd H s.heap.objs.size (.own (s.heap.objs.size + 1))) (s.heap.objs.size + 1) (.ins C s.heap.objs.size [])) (updG G (s.heap.objs.size + 1) (.ins C [])) := g1.put n1' ⟨s.heap.objs.size, [], upd_same, .nil⟩
  have hq : upSp X.K sp (V.ref (s.heap.objs.size + 1) :: (vs ++ dvs)) (upd (upd H s.heap.objs.size (.own (s.heap.objs.size + 1))) (s.heap.objs.size + 1) (.ins C s.heap.objs.size [])) (fun v H' => v = .non ∧ ∃ G', HR X.K H' G' ∧ R (.ref (s.heap.objs.size + 1)) G') (liftX X.K (EX ρ)) :=
    ⟨.ref (s.heap.objs.size + 1) :: (ds2 ++ dd), _, _, EX ρ, .cons (.ref _) (((r2.mono t1).mono t2).append (hdd _)), g2, h _ gn, fun v H' d G' r3 g3 q3 => by
      obtain ⟨rfl, q3⟩ := q3
      cases r3
      exact ⟨rfl, G', g3, q3⟩, fun C H' G' g' q' => ⟨C, G', rfl, g', q'⟩⟩
  have rr : Vals (V.ref (s.heap.objs.size + 1) :: (vs ++ dvs)) (Value.ref (s.heap.objs.size + 1) :: (us ++ ds)) := .cons rfl (r.append hd)
  have hl : (Value.ref (s.heap.objs.size + 1) :: us ++ ds).length = ps.length := by
    have e := rr.length
    rw [F.len _ _ _ _ hq] at e
    exact e.symm
  refine wpAny_call (make_map (f := f) I.kIn M.makes M.init (beq_iff_eq.mp M.fn) (codeAny_mono (F.run _ X.stack _ _ ⟨Value.ref (s.heap.objs.size + 1) :: us, []⟩ (Value.ref (s.heap.objs.size + 1) :: (us ++ ds)) _ _ _ (hr.make C us [])
    (I2.env0.make C us []) (hb _ (Value.ref (s.heap.objs.size + 1) :: us) I2.kIn hl) rr hq) fun r s' hq' => ?_))
  cases r with
  | error e => exact hx.flies pins σ _ _ ρ e s' I2 ((sr.mono t1).mono t2) hq'
  | ok fl =>
    cases fl with
    | ret u =>
      obtain ⟨v, H', os, bare, un, hok, rv, ev, G', g3, q3⟩ := hq'
      subst ev
      exact ⟨rv, ⟨V.ref (s.heap.objs.size + 1), H', I2.call' (ch := []) os un hok bare (fun b z => absurd z (by simp)), rfl, hQ _ H' (.ref _) G' ((t1.trans t2).trans ⟨un.tups, un.frzs⟩) (.ref _) g3 q3⟩⟩
    | next => exact False.elim hq'
    | brk => exact False.elim hq'
    | cont => exact False.elim hq'
theorem p_makeX (M : Mk X.K C f) (F : FnOk qt X.prog X.w X.K X.mg X.base (CX1 X.prog X.w) k f fd ps (upSp X.K sp)) (hr : Room qt (k + 1) X.A) (hg : Gl X x) (hm : X.mg x = some (.ref C)) (hb : Binds X.K fd ps ds) (hd : Vals dvs ds) (hdd : ∀ H, RDs X.K H dd dvs) (hx : Cat X EX)
    (ha : PA3 X (e :: es) t) (hdb : (x == ("__debug__" : Str)) = false) (he : starEach (e :: es) X.env = (false, eval e X.env) :: starEach es X.env) (hpl : (backTo pos (starEach es X.env)).any (·.1) = false) :
    PE3 X (.Call (.Name x p) (e :: es) [] pos) (tMakeX C sp dd EX t) := by
  intro pins s σ H Q I h
  obtain ⟨ρ, G, R, sr, g, q, kk⟩ := h
  refine wpAny_Call_Name_kw (ld_glob I hg hm ?_ hdb)
  refine PySem.W.callWith_K (h₀ := X.base) I.ok.mod.kin M.kp (thn (ha pos pins s σ H (fun vs H1 => Ts H H1 ∧ ∃ ds G1, RDs X.K H1 ds vs ∧ HR X.K H1 G1 ∧ ∀ x, G1 x = none → sp (.ref x :: (ds ++ dd)) (updG G1 x (.ins C [])) (fun v G2 => v = .non ∧ R (.ref x) G2) (EX ρ)) I ⟨ρ, G, _, sr, g, q, fun vs H1 ds G1 t1 r1 g1 q1 => ⟨t1, ds, G1, r1, g1, q1⟩⟩) fun us s1 ⟨vs, H1, I1, r, t1, ds, G1, r1, g1, q1⟩ => ⟨I1.kIn, ?_⟩) he hpl
  exact run_make3 M F hr hb hd hdd hx I1 (sr.mono t1) g1 r r1 q1 fun v H' d G' t2 => kk v H' d G' (t1.trans t2)
theorem p_makeX0 (M : Mk X.K C f) (F : FnOk qt X.prog X.w X.K X.mg X.base (CX1 X.prog X.w) k f fd ps (upSp X.K sp)) (hr : Room qt (k + 1) X.A) (hg : Gl X x) (hm : X.mg x = some (.ref C)) (hb : Binds X.K fd ps ds) (hd : Vals dvs ds) (hdd : ∀ H, RDs X.K H dd dvs) (hx : Cat X EX)
    (hdb : (x == ("__debug__" : Str)) = false) : PE3 X (.Call (.Name x p) [] [] pos) (tMakeX C sp dd EX tNil3) := by
  intro pins s σ H Q I h
  obtain ⟨ρ, G, R, sr, g, q, kk⟩ := h
  refine wpAny_Call_Name_kw (ld_glob I hg hm ?_ hdb)
  exact PySem.W.callWith_K0 I.kIn M.kp (run_make3 (us := []) (vs := []) (ds2 := []) M F hr hb hd hdd hx I sr g .nil .nil q fun v H' d G' t2 => kk v H' d G' t2)
end
end L2
set_option Elab.async false
set_option linter.all false
set_option maxRecDepth 100000
set_option maxHeartbeats 4000000
namespace L2
open PySem PySem.Spec PyProof.Rows
/-! ### records of ours that turned, a new thing beside them -/
section
variable {X : Cx} {pins : List (Addr × Obj)} {σ : St} {H : Hp} {s : Shared} {h' : Heap}
end
/-! ### zip of two lists -/
def Itz (K : Fg) (a b : Addr) : It :=
  ⟨fun i H => ∃ xs ys x y, SqL K H a xs ∧ SqL K H b ys ∧ xs[i]? = some x ∧ ys[i]? = some y,
   fun i H v H' => ∃ p x y, H p = none ∧ v = .ref p ∧ H' = upd H p (.tup [x, y]) ∧ (∀ xs, SqL K H a xs → xs[i]? = some x) ∧ ∀ ys, SqL K H b ys → ys[i]? = some y,
   fun i H => ∃ xs ys, SqL K H a xs ∧ SqL K H b ys ∧ (xs.length ≤ i ∨ ys.length ≤ i)⟩
def ZipSt (z TI TO i1 i2 l1 l2 : Addr) (i : Nat) (h : Heap) : Prop := IsZip h z TI TO .none ∧ IsPair h TI (.ref i1) (.ref i2) ∧ (∃ a b, IsPair h TO a b) ∧ h.IsListIter i1 l1 i ∧ h.IsListIter i2 l2 i
def tiZip (ta : TA3) : TI3 := fun ρ G R => ta ρ G fun xs G1 => match xs with
  | [.ref p, .ref q] => (match lsOf G1 p, lsOf G1 q with
    | some xs, some ys => R (.zip p q xs ys) G1
    | _, _ => False)
  | _ => False
section
variable {X : Cx} {es : List Expr} {kt : Nat} {pt : Pos}
end
/-! ### max(l, default=d) -/
section
variable {prog : Program} {w : World} {A : Around} {R : Result → Shared → Prop} {I : Addr} {fp wr : List Addr} {n : Nat} {P : Nat → Value → Prop} {St : Nat → Heap → Prop} {kw : List (Str × Value)}
end
def r_maxD (x d : D) (G : Gp) (R : VK3) : Prop := match x with
  | .ref p => (match lsOf G p with
    | some ds => ∃ ns : List Int, ds = ns.map D.int ∧ (ns = [] → R d G) ∧ ∀ M, M ∈ ns → (∀ a ∈ ns, a ≤ M) → R (.int M) G
    | none => False)
  | _ => False
def tMaxD (te td : TE3) : TE3 := fun ρ G R => te ρ G fun x G1 => td ρ G1 fun d G2 => r_maxD x d G2 R
section
variable {X : Cx} {x : Str} {p pos kp : Pos} {e d : Expr} {te td : TE3}
end
end L2
set_option Elab.async false
set_option linter.all false
set_option maxRecDepth 100000
set_option maxHeartbeats 4000000
namespace L2
open PySem PySem.Spec PyProof.Rows
/-! ### dicts by their keys -/
def atomK : D → Option Key
  | .int i => some (.inl i)
  | .str x => some (.inr x)
  | _ => none
def atomsK : List D → Option (List Key)
  | [] => some []
  | d :: r => match atomK d, atomsK r with
    | some k, some ks => some (k :: ks)
    | _, _ => none
def keyD : D → Option DK
  | .int i => some (.inl (.inl i))
  | .str x => some (.inl (.inr x))
  | .tup ds => (match atomsK ds with
    | some ks => some (.inr ks)
    | none => none)
  | _ => none
def kindK : DK → Bool
  | .inl _ => false
  | .inr _ => true
section
variable {κ : Type} [DecidableEq κ] {α : Type}
def valG : List (κ × α) → κ → Option α
  | [], _ => none
  | p :: r, k => if p.1 = k then some p.2 else valG r k
def putG (kvs : List (κ × α)) (k : κ) (v : α) : List (κ × α) := if (valG kvs k).isSome = true then kvs.map (fun kv => if kv.1 = k then (kv.1, v) else kv) else kvs ++ [(k, v)]
def dropG (kvs : List (κ × α)) (k : κ) : List (κ × α) := kvs.filter fun kv => !decide (kv.1 = k)
end
abbrev TwoK {κ : Type} (K : Fg) (H : Hp) (f : κ → DK) : List (DK × D) → List (κ × V) → Prop := Two fun p q => p.1 = f q.1 ∧ RD K H p.2 q.2
section
variable {κ : Type} [DecidableEq κ] {K : Fg} {H : Hp} {f : κ → DK}
theorem val_two (hf : ∀ a b, f a = f b → a = b) {k : κ} : ∀ {kvs : List (DK × D)} {xs : List (κ × V)}, TwoK K H f kvs xs → (∀ d, valG kvs (f k) = some d → ∃ v, valV xs k = some v ∧ RD K H d v) ∧ (valG kvs (f k) = none → valV xs k = none)
  | _, _, .nil => ⟨fun d e => (nomatch e), fun _ => rfl⟩
  | p :: kvs, q :: xs, .cons h r => by
    obtain ⟨h1, h2⟩ := h
    by_cases c : q.1 = k
    · have c2 : p.1 = f k := by rw [h1, c]
      unfold valG
      rw [if_pos c2, valV_pos c]
      exact ⟨fun d e => by cases e; exact ⟨_, rfl, h2⟩, fun e => (nomatch e)⟩
    · have c2 : ¬ p.1 = f k := fun z => c (hf _ _ (h1.symm.trans z))
      unfold valG
      rw [if_neg c2, valV_neg c]
      exact val_two hf r
theorem val_some (hf : ∀ a b, f a = f b → a = b) {k : κ} {kvs : List (DK × D)} {xs : List (κ × V)} (t : TwoK K H f kvs xs) : (valG kvs (f k)).isSome = (valV xs k).isSome := by
  have z := val_two hf (k := k) t
  cases e : valG kvs (f k) with
  | none => rw [z.2 e]; rfl
  | some d => obtain ⟨v, e2, _⟩ := z.1 d e; rw [e2]; rfl
theorem two_map {g : DK × D → DK × D} {h : κ × V → κ × V} (gh : ∀ p q, p.1 = f q.1 ∧ RD K H p.2 q.2 → (g p).1 = f (h q).1 ∧ RD K H (g p).2 (h q).2) : ∀ {kvs : List (DK × D)} {xs : List (κ × V)}, TwoK K H f kvs xs → TwoK K H f (kvs.map g) (xs.map h)
  | _, _, .nil => .nil
  | _, _, .cons z r => .cons (gh _ _ z) (two_map gh r)
theorem two_snoc {p : DK × D} {q : κ × V} (z : p.1 = f q.1 ∧ RD K H p.2 q.2) : ∀ {kvs : List (DK × D)} {xs : List (κ × V)}, TwoK K H f kvs xs → TwoK K H f (kvs ++ [p]) (xs ++ [q])
  | _, _, .nil => .cons z .nil
  | _, _, .cons y r => .cons y (two_snoc z r)
theorem put_two (hf : ∀ a b, f a = f b → a = b) {k : κ} {d : D} {v : V} (rd : RD K H d v) {kvs : List (DK × D)} {xs : List (κ × V)} (t : TwoK K H f kvs xs) : TwoK K H f (putG kvs (f k) d) (putK xs k v) := by
  unfold putG putK
  rw [valV_any, val_some hf t]
  split
  · refine two_map (fun p q ⟨h1, h2⟩ => ?_) t
    by_cases c : q.1 = k
    · rw [if_pos (show p.1 = f k by rw [h1, c]), if_pos c]
      exact ⟨h1, rd⟩
    · rw [if_neg (show ¬ p.1 = f k from fun z => c (hf _ _ (h1.symm.trans z))), if_neg c]
      exact ⟨h1, h2⟩
  · exact two_snoc (p := (f k, d)) (q := (k, v)) ⟨rfl, rd⟩ t
end
theorem inl_inj (a b : Key) (h : (Sum.inl a : DK) = .inl b) : a = b := by cases h; rfl
theorem inr_inj (a b : List Key) (h : (Sum.inr a : DK) = .inr b) : a = b := by cases h; rfl
/-- x is a dict, y a key of its kind -/
def onDic (x y : D) (G : Gp) (P : Addr → Bool → List (DK × D) → DK → Prop) : Prop := match x with
  | .ref a => (match G a, keyD y with
    | some (.dic t kvs), some k => kindK k = t ∧ P a t kvs k
    | _, _ => False)
  | _ => False
def DicAt (K : Fg) (H : Hp) (a : Addr) (vy : V) (kvs : List (DK × D)) (k : DK) : Prop :=
  (∃ k' xs, k = .inl k' ∧ H a = some (.dK xs) ∧ TwoK K H .inl kvs xs ∧ vy = kV k') ∨ ∃ ks xs b, k = .inr ks ∧ H a = some (.dT xs) ∧ TwoK K H .inr kvs xs ∧ vy = .ref b ∧ H b = some (.tup (ks.map kV))
/-- what lies there -/
theorem DicAt.get {K : Fg} {H : Hp} {a : Addr} {vy : V} {kvs : List (DK × D)} {k : DK} (h : DicAt K H a vy kvs k) : (∀ d, valG kvs k = some d → ∃ v, DGet H a vy (some v) ∧ RD K H d v) ∧ (valG kvs k = none → DGet H a vy none) := by
  rcases h with ⟨k', xs, rfl, e, r, rfl⟩ | ⟨ks, xs, b, rfl, e, r, rfl, eb⟩
  · have z := val_two inl_inj (k := k') r
    exact ⟨fun d e2 => (z.1 d e2).elim fun v q => ⟨v, by rw [← q.1]; exact .k e, q.2⟩, fun e2 => by rw [← z.2 e2]; exact .k e⟩
  · have z := val_two inr_inj (k := ks) r
    exact ⟨fun d e2 => (z.1 d e2).elim fun v q => ⟨v, by rw [← q.1]; exact .t e eb, q.2⟩, fun e2 => by rw [← z.2 e2]; exact .t e eb⟩
theorem DicAt.any {K : Fg} {H : Hp} {a : Addr} {vy : V} {kvs : List (DK × D)} {k : DK} (h : DicAt K H a vy kvs k) : ∃ o, DGet H a vy o ∧ o.isSome = (valG kvs k).isSome ∧ ∀ d v, RD K H d v → RD K H ((valG kvs k).getD d) (o.getD v) := by
  have z := h.get
  cases e : valG kvs k with
  | none => exact ⟨none, z.2 e, rfl, fun d v r => r⟩
  | some d => obtain ⟨v, g, r⟩ := z.1 d e; exact ⟨some v, g, rfl, fun _ _ _ => r⟩
/-- put there -/
theorem DicAt.put {K : Fg} {H : Hp} {G : Gp} {a : Addr} {vy v : V} {d : D} {kvs : List (DK × D)} {k : DK} (g : HR K H G) (h : DicAt K H a vy kvs k) (rv : RD K H d v) (hl : kvs.length < sizeLine) : ∃ H', DPut H a vy v H' ∧ Ts H H' ∧ HR K H' (updG G a (.dic (kindK k) (putG kvs k d))) := by
  rcases h with ⟨k', xs, rfl, e, r, rfl⟩ | ⟨ks, xs, b, rfl, e, r, rfl, eb⟩
  · have tt : Ts H (upd H a (.dK (putK xs k' v))) := .turn e (fun _ z => nomatch z) (fun _ _ z => nomatch z)
    exact ⟨_, .k e (by rw [← r.length]; exact hl), tt, g.turn (u := .dic false _) tt (.inl ⟨rfl, _, upd_same, (put_two inl_inj rv r).imp fun _ _ q => ⟨q.1, q.2.mono tt⟩⟩)⟩
  · have tt : Ts H (upd H a (.dT (putK xs ks v))) := .turn e (fun _ z => nomatch z) (fun _ _ z => nomatch z)
    exact ⟨_, .t e eb (by rw [← r.length]; exact hl), tt, g.turn (u := .dic true _) tt (.inr ⟨rfl, _, upd_same, (put_two inr_inj rv r).imp fun _ _ q => ⟨q.1, q.2.mono tt⟩⟩)⟩
def r_dget : R3 := fun x y G R => onDic x y G fun _ _ kvs k => match valG kvs k with
  | some d => R d G
  | none => False
def r_din : R3 := fun x y G R => onDic y x G fun _ _ kvs k => R (.bl (valG kvs k).isSome) G
def r_dnin : R3 := fun x y G R => onDic y x G fun _ _ kvs k => R (.bl (!(valG kvs k).isSome)) G
section
variable {X : Cx} {o i value e f : Expr} {to ti tv te tf : TE3} {pos pos' apos cpos : Pos}
/-- o[i] = value of a dict -/
def sDicK (x y v : D) (F : Ends3) (ρ : St3) (G : Gp) : Prop := onDic x y G fun a t kvs k => kvs.length < sizeLine ∧ F.nx ρ (updG G a (.dic t (putG kvs k v)))
def tSetD3 (to ti tv : TE3) : TS3 := fun F ρ G => tv ρ G fun v G1 => to ρ G1 fun x G2 => ti ρ G2 fun y G3 => sDicK x y v F ρ G3
def isDicG (x : D) (G : Gp) : Prop := match x with
  | .ref a => (match G a with
    | some (.dic _ _) => True
    | _ => False)
  | _ => False
/-- o.get(e, f) -/
def tDGet23 (to te tf : TE3) : TE3 := fun ρ G R => to ρ G fun x G1 => isDicG x G1 ∧ te ρ G1 fun y G2 => tf ρ G2 fun z G3 => onDic x y G3 fun _ _ kvs k => R ((valG kvs k).getD z) G3
end
end L2
set_option Elab.async false
set_option linter.all false
set_option maxRecDepth 100000
set_option maxHeartbeats 4000000
namespace L2
open PySem PySem.Spec PyProof.Rows
/-! ### a dict by tuples: setdefault, pop -/
section
variable {prog : Program} {w : World} {K : Type} [DecidableEq K] {knd : HeapKind prog w K} {A : Around} {E : Value → Shared → Prop} {s : Shared} {d a : Addr} {k : K} {xs : List (K × Addr × Value)}
def withoutH (xs : List (K × Addr × Value)) (k : K) : List (K × Addr × Value) := xs.filter fun x => decide (x.1 ≠ k)
end
theorem KT.drop {H : Hp} {kvs : List (List Key × V)} {xs : List (List Key × Addr × Value)} (r : KT H kvs xs) (k : List Key) : KT H (dropK kvs k) (withoutH xs k) := by
  unfold dropK withoutH
  induction r with
  | nil => exact .nil
  | @cons p q ps qs h t ih =>
    rw [List.filter_cons, List.filter_cons]
    by_cases e : p.1 = k
    · rw [if_neg (by simp [e]), if_neg (by simp [h.1.symm.trans e])]
      exact ih
    · rw [if_pos (by simp [e]), if_pos (by simp; exact fun z => e (h.1.trans z))]
      exact .cons h ih
/-- a dict's method, with arguments -/
def tDM3 (r : RM3) (to : TE3) (t : TA3) : TE3 := fun ρ G R => to ρ G fun x G1 => isDicG x G1 ∧ t ρ G1 fun xs G2 => r x xs G2 R
section
variable {X : Cx}
/-- d.setdefault(y, z) of a dict by tuples -/
def r_sdf : RM3 := fun x xs G R => match xs with
  | [y, z] => onDic x y G fun a t kvs k => t = true ∧ kvs.length < sizeLine ∧ (match valG kvs k with
    | some d => R d G
    | none => R z (updG G a (.dic t (putG kvs k z))))
  | _ => False
/-- d.pop(y), there -/
def r_dpop : RM3 := fun x xs G R => match xs with
  | [y] => onDic x y G fun a t kvs k => (match valG kvs k with
    | some d => R d (updG G a (.dic t (dropG kvs k)))
    | none => False)
  | _ => False
/-- len(d) of a dict by numbers or texts -/
def r_dlen : List D → Gp → VK3 → Prop := fun xs G R => match xs with
  | [.ref a] => (match G a with
    | some (.dic false kvs) => R (.int kvs.length) G
    | _ => False)
  | _ => False
end
end L2
set_option Elab.async false
set_option linter.all false
set_option maxRecDepth 100000
set_option maxHeartbeats 4000000
namespace L2
open PySem PySem.Spec PyProof.Rows PySem.W
/-! ### what the sort asks, and what comes of it: no two alike -/
section
variable {cmp : Nat → Nat → (Bool → Shared → Prop) → Shared → Prop} {I : Shared → Prop} {kf : Nat → Int}
/-- the i-th one's key -/
def ky (kf : Nat → Int) (p : Array Nat) (i : Nat) : Int := kf (p.getD i 0)
def Up (kf : Nat → Int) (p : Array Nat) (k : Nat) : Prop := ∀ i j, i ≤ j → j < k → ky kf p i ≤ ky kf p j
def Down (kf : Nat → Int) (p : Array Nat) (k : Nat) : Prop := ∀ i j, i < j → j < k → ky kf p j < ky kf p i
def Asks (cmp : Nat → Nat → (Bool → Shared → Prop) → Shared → Prop) (I : Shared → Prop) (kf : Nat → Int) (n : Nat) : Prop := ∀ i j C s, i < n → j < n → I s → (∀ s', I s' → C (decide (kf i < kf j)) s') → cmp i j C s
/-- p is a turning about of 0 .. n-1 -/
structure Pm (n : Nat) (p : Array Nat) : Prop where
  size : p.size = n
  perm : p.toList.Perm (List.range n)
theorem Pm.lt {n : Nat} {p : Array Nat} (h : Pm n p) {i : Nat} (hi : i < n) : p.getD i 0 < n := by
  have hs : i < p.size := by rw [h.size]; exact hi
  have e : p.getD i 0 = p[i] := by simp [Array.getD, hs]
  rw [e]
  exact List.mem_range.mp (h.perm.mem_iff.mp (by simp))
theorem Pm.inj {n : Nat} {p : Array Nat} (h : Pm n p) {i j : Nat} (hi : i < n) (hj : j < n) (e : p.getD i 0 = p.getD j 0) : i = j := by
  have hs : i < p.size := by rw [h.size]; exact hi
  have ht : j < p.size := by rw [h.size]; exact hj
  have nd : p.toList.Nodup := (h.perm.nodup_iff).mpr List.nodup_range
  have e1 : p.getD i 0 = p[i] := by simp [Array.getD, hs]
  have e2 : p.getD j 0 = p[j] := by simp [Array.getD, ht]
  rw [e1, e2] at e
  have key := List.pairwise_iff_getElem.mp nd
  have hs' : i < p.toList.length := by simpa using hs
  have ht' : j < p.toList.length := by simpa using ht
  rcases Nat.lt_trichotomy i j with c | c | c
  · exact absurd (by simpa using e) (key i j hs' ht' c)
  · exact c
  · exact absurd (by simpa using e.symm) (key j i ht' hs' c)
theorem getD_of {p q : Array Nat} {i j : Nat} (h : p[i]? = q[j]?) : p.getD i 0 = q.getD j 0 := by
  rw [Array.getD_eq_getD_getElem?, Array.getD_eq_getD_getElem?, h]
theorem ky_rev {p : Array Nat} {n k : Nat} (hn : n ≤ p.size) (hk : k < n) : ky kf (kas_rev p 0 n) k = ky kf p (n - 1 - k) := by
  unfold ky kas_rev
  have e := getElem?_mirror_all (xs := p) (i := 0) (j := n) hn k
  rw [if_pos ⟨Nat.zero_le _, hk⟩, Nat.zero_add] at e
  rw [getD_of e]
theorem Down.up {p : Array Nat} {n : Nat} (hn : n ≤ p.size) (h : Down kf p n) : Up kf (kas_rev p 0 n) n := fun i j hij hj => by
  rw [ky_rev hn (by omega), ky_rev hn hj]
  by_cases c : i = j
  · subst c; exact Int.le_refl _
  · exact Int.le_of_lt (h (n - 1 - j) (n - 1 - i) (by omega) (by omega))
end
/-! ### sorted of a list whose things are apart -/
section
variable {prog : Program} {w : World} {A : Around} {E : Value → Shared → Prop} {s : Shared}
/-- in the heap h' the things of vs are asked by their keys -/
def AskAt (prog : Program) (w : World) (A : Around) (s : Shared) (kf : Nat → Int) (vs : List Value) (h' : Heap) : Prop :=
  ∃ κ, (∀ Q : SortKind → Shared → Prop, Q κ { s with heap := h' } → wpAny (model prog w) A (keyKind' vs.toArray) Q (fun _ _ => False) { s with heap := h' }) ∧ ∀ i j (C : Bool → Shared → Prop), i < vs.length → j < vs.length → C (decide (kf i < kf j)) { s with heap := h' } → kas_ask prog w A κ vs i j C { s with heap := h' }
end
/-! ### pairs of numbers, the first ones first -/
def prLt (a b : Int × Int) : Prop := a.1 < b.1 ∨ (a.1 = b.1 ∧ a.2 < b.2)
instance (a b : Int × Int) : Decidable (prLt a b) := by unfold prLt; infer_instance
/-- in order -/
def RisingP : List (Int × Int) → Prop := List.Pairwise prLt
def enc (M : Int) (a : Int × Int) : Int := a.1 * M + a.2
section
variable {prog : Program} {w : World} {A : Around} {E : Value → Shared → Prop} {s : Shared}
/-- the values are tuples of these pairs -/
def PairsAt (h : Heap) (ps : List (Int × Int)) (vs : List Value) : Prop := vs.length = ps.length ∧ ∀ (i : Nat) (p : Int × Int), ps[i]? = some p → ∃ (a : Addr) (o : Obj) (n : Nat) (x y : Tok), vs[i]? = some (Value.ref a) ∧ h.get? a = some o ∧ o.cls = Value.type "tuple" ∧ o.data = .seq #[.int p.1 x, .int p.2 y] n
end
end L2
set_option Elab.async false
set_option linter.all false
set_option maxRecDepth 100000
set_option maxHeartbeats 4000000
namespace L2
open PySem PySem.Spec PyProof.Rows PySem.W
/-! ### sorted, of pairs of numbers -/
abbrev prV (q : Int × Int) : D := .tup [.int q.1, .int q.2]
section
variable {X : Cx}
/-- sorted by pairs -/
def SortP (ds : List D) (G : Gp) (R : VK3) : Prop := ∃ ps : List (Int × Int), ds = ps.map prV ∧ ps.Nodup ∧ ps.length < 64 ∧ ∀ qs : List (Int × Int), qs.Perm ps → RisingP qs → ∀ r, G r = none → R (.ref r) (updG G r (.lst (qs.map prV)))
def r_sortL : List D → Gp → VK3 → Prop := fun xs G R => match xs with
  | [.ref a] => (match lsOf G a with
    | some ds => SortP ds G R
    | none => False)
  | _ => False
end
end L2
set_option Elab.async false
set_option linter.all false
set_option maxRecDepth 100000
set_option maxHeartbeats 4000000
namespace L2
open PySem PySem.Spec PyProof.Rows PySem.W
/-! ### the keys of a dict, whatever they are -/
def RawAt (h : Heap) (d : Addr) (es : Array DictEntry) (ep : Nat) : Prop := ∃ o, h.get? d = some o ∧ o.ExactDict ∧ o.data = .dict es ep
section
variable {prog : Program} {w : World} {A : Around} {E : Value → Shared → Prop} {s : Shared} {d it : Addr} {es : Array DictEntry} {ep i : Nat}
theorem RawAt.typeIs (hm : RawAt s.heap d es ep) : s.TypeIs (.ref d) "dict" := let ⟨o, ho, hc, _⟩ := hm; ⟨o, ho, hc.1⟩
theorem RawAt.lt {h : Heap} (hm : RawAt h d es ep) : d < h.objs.size := let ⟨_, ho, _⟩ := hm; Heap.lt_size ho
theorem RawAt.at {h h' : Heap} (hm : RawAt h d es ep) (k : ∀ o, h.get? d = some o → h'.get? d = some o) : RawAt h' d es ep := let ⟨o, ho, r⟩ := hm; ⟨o, k o ho, r⟩
end
end L2
set_option Elab.async false
set_option linter.all false
set_option maxRecDepth 100000
set_option maxHeartbeats 4000000
namespace L2
open PySem PySem.Spec PyProof.Rows PySem.W
/-! ### range by steps of 1 or -1 -/
def Itc (lo c : Int) (n : Nat) : It := ⟨fun i _ => i < n, fun i H x H' => H' = H ∧ x = .int (lo + (i : Int) * c), fun i _ => n ≤ i⟩
def stepN (i j c : Int) : Nat := if c = 1 then (j - i).toNat else (i - j).toNat
section
variable {X : Cx} {tg : Expr}
def iRng3 (ta : TA) : TI := fun σ H R => ta σ H fun vs H1 => ∃ i j c : Int, vs = [.int i, .int j, .int c] ∧ (-(2 ^ 61) ≤ i ∧ i < 2 ^ 61 ∧ -(2 ^ 61) ≤ j ∧ j < 2 ^ 61) ∧ (c = 1 ∨ c = -1) ∧ R (Itc i c (stepN i j c)) H1
end
def rngC (lo c : Int) (n : Nat) : List D := (List.range n).map fun (i : Nat) => .int (lo + (i : Int) * c)
def rng3K (xs : List D) (G : Gp) (R : Src → Gp → Prop) : Prop := match xs with
  | [.int i, .int j, .int c] => (-(2 ^ 61) ≤ i ∧ i < 2 ^ 61 ∧ -(2 ^ 61) ≤ j ∧ j < 2 ^ 61) ∧ (c = 1 ∨ c = -1) ∧ R (.imm (rngC i c (stepN i j c))) G
  | _ => False
def tiRng3 (ta : TA3) : TI3 := fun ρ G R => ta ρ G fun xs G1 => rng3K xs G1 R
section
variable {X : Cx} {tg : Expr}
/-! ### l[::-1] -/
def rRev3 (x : D) (G : Gp) (R : VK3) : Prop := match x with
  | .ref a => (match lsOf G a with
    | some ds => ∀ q, G q = none → R (.ref q) (updG G q (.lst ds.reverse))
    | none => False)
  | _ => False
def tRev3 (te : TE3) (tk : TO3) : TE3 := fun ρ G R => te ρ G fun x G1 => tk ρ G1 fun o G2 => o = some (-1) ∧ rRev3 x G2 R
end
end L2
set_option Elab.async false
set_option linter.all false
set_option maxRecDepth 100000
set_option maxHeartbeats 4000000
namespace L2
open PySem PySem.Spec PyProof.Rows PySem.W
section
variable {prog : Program} {w : World} {A : Around} {E : Value → Shared → Prop} {s : Shared}
/-! ### dict(..) of a list of pairs, keys tuples -/
abbrev TK (prog : Program) (w : World) := tupleKind (mixKind prog w)
/-- the pairs in the list -/
def PrAt (prog : Program) (w : World) (h : Heap) (v : Value) (x : List Key × Addr × Value) : Prop := ∃ p o n, v = .ref p ∧ h.get? p = some o ∧ o.cls = .type "tuple" ∧ o.data = .seq #[.ref x.2.1, x.2.2] n ∧ (TK prog w).is h x.1 x.2.1
def foldS (xs ps : List (List Key × Addr × Value)) : List (List Key × Addr × Value) := ps.foldl (fun acc x => storedH acc x.1 x.2.1 x.2.2) xs
theorem tk_keep {h h' : Heap} {ks : List Key} {a : Addr} (x : (TK prog w).is h ks a) (k : ∀ o, h.get? a = some o → h'.get? a = some o) : (TK prog w).is h' ks a := by
  obtain ⟨o, its, n, h1, r⟩ := x
  exact ⟨o, its, n, k _ h1, r⟩
/-- a pair, and where it does not lie -/
def PrOk (prog : Program) (w : World) (I d : Addr) (h : Heap) (v : Value) (x : List Key × Addr × Value) : Prop := ∃ p o n, v = .ref p ∧ h.get? p = some o ∧ o.cls = .type "tuple" ∧ o.data = .seq #[.ref x.2.1, x.2.2] n ∧ (TK prog w).is h x.1 x.2.1 ∧ p ≠ I ∧ p ≠ d ∧ x.2.1 ≠ I ∧ x.2.1 ≠ d
theorem PrOk.keep {I d : Addr} {h h' : Heap} {v : Value} {x : List Key × Addr × Value} (q : PrOk prog w I d h v x) (k : ∀ b o, b ≠ d → b ≠ I → h.get? b = some o → h'.get? b = some o) : PrOk prog w I d h' v x := by
  obtain ⟨p, o, n, e, h1, h2, h3, h4, h5, h6, h7, h8⟩ := q
  exact ⟨p, o, n, e, k _ _ h6 h5 h1, h2, h3, tk_keep h4 fun o e => k _ _ h8 h7 e, h5, h6, h7, h8⟩
theorem PrAt.ok {I d : Addr} {h h' : Heap} {v : Value} {x : List Key × Addr × Value} (q : PrAt prog w h v x) (hI : h.objs.size ≤ I) (hd : h.objs.size ≤ d) (k : ∀ b o, h.get? b = some o → h'.get? b = some o) : PrOk prog w I d h' v x := by
  obtain ⟨p, o, n, e, h1, h2, h3, h4⟩ := q
  have l1 := Heap.lt_size h1
  have l2 : x.2.1 < h.objs.size := by
    obtain ⟨o2, its, n2, z, _⟩ := id h4
    exact Heap.lt_size z
  exact ⟨p, o, n, e, k _ _ h1, h2, h3, tk_keep h4 fun o e => k _ _ e, Nat.ne_of_lt (Nat.lt_of_lt_of_le l1 hI), Nat.ne_of_lt (Nat.lt_of_lt_of_le l1 hd), Nat.ne_of_lt (Nat.lt_of_lt_of_le l2 hI), Nat.ne_of_lt (Nat.lt_of_lt_of_le l2 hd)⟩
end
end L2
set_option Elab.async false
set_option linter.all false
set_option maxRecDepth 100000
set_option maxHeartbeats 4000000
namespace L2
open PySem PySem.Spec PyProof.Rows PySem.W
/-! ### dict(l), list(d) -/
def dkD : DK → D
  | .inl k => kD k
  | .inr ks => .tup (ks.map kD)
def pairD : D → Option (List Key × D)
  | .tup [.tup ds, z] => (match atomsK ds with
    | some ks => some (ks, z)
    | none => none)
  | _ => none
def pairsD : List D → Option (List (List Key × D))
  | [] => some []
  | d :: r => match pairD d, pairsD r with
    | some p, some ps => some (p :: ps)
    | _, _ => none
def foldG (kvs : List (DK × D)) (ps : List (List Key × D)) : List (DK × D) := ps.foldl (fun acc p => putG acc (.inr p.1) p.2) kvs
inductive Prs (K : Fg) (H : Hp) : List (List Key × D) → List (List Key × Addr × Value) → Prop where
  | nil : Prs K H [] []
  | cons {ks : List Key} {b : Addr} {vz : V} {u : Value} {d : D} {kvs : List (List Key × D)} {ps : List (List Key × Addr × Value)} : H b = some (.tup (ks.map kV)) → RD K H d vz → RelV vz u → Prs K H kvs ps → Prs K H ((ks, d) :: kvs) ((ks, b, u) :: ps)
theorem Prs.len {K : Fg} {H : Hp} {kvs : List (List Key × D)} {ps : List (List Key × Addr × Value)} (h : Prs K H kvs ps) : kvs.length = ps.length := by
  induction h with
  | nil => rfl
  | cons _ _ _ _ ih => simp [ih]
section
variable {X : Cx}
def r_dictP : List D → Gp → VK3 → Prop := fun xs G R => match xs with
  | [.ref a] => (match lsOf G a with
    | some ds => (match pairsD ds with
      | some kvs => ∀ r, G r = none → R (.ref r) (updG G r (.dic true (foldG [] kvs)))
      | none => False)
    | none => False)
  | _ => False
/-- list(d) of a dict by tuples -/
def r_listD : List D → Gp → VK3 → Prop := fun xs G R => match xs with
  | [.ref a] => (match G a with
    | some (.dic true kvs) => ∀ l, G l = none → R (.ref l) (updG G l (.lst (kvs.map fun p => dkD p.1)))
    | _ => False)
  | _ => False
end
end L2
set_option Elab.async false
set_option linter.all false
set_option maxRecDepth 100000
set_option maxHeartbeats 4000000
namespace L2
open PySem PySem.Spec PyProof.Rows
/-! ### a statement for which a local name is hidden: its comprehension has a variable of that name -/
abbrev hidX (X : Cx) (i : Nat) : Cx := { X with N := X.N.set i ("-" : Str) }
section
variable {X : Cx} {pins : List (Addr × Obj)} {σ : St} {H : Hp} {s : Shared} {i : Nat}
end
def hidE (F : Ends3) (i : Nat) : Ends3 := { nx := fun ρ G => F.nx (clr3 ρ i) G, rt := F.rt, bk := fun ρ G => F.bk (clr3 ρ i) G, ct := fun ρ G => F.ct (clr3 ρ i) G }
def tHid3 (i : Nat) (t : TS3) : TS3 := fun F ρ G => t (hidE F i) (clr3 ρ i) G
end L2
set_option Elab.async false
set_option linter.all false
set_option maxRecDepth 100000
set_option maxHeartbeats 4000000
namespace L2
open PySem PySem.Spec PyProof.Rows PySem.W
/-! ### sorted, of whatever is walked -/
section
variable {prog : Program} {w : World} {A : Around} {E : Value → Shared → Prop} {s : Shared}
end
section
variable {X : Cx}
/-- sorted(d) of a dict by pairs of numbers -/
def r_sortD : List D → Gp → VK3 → Prop := fun xs G R => match xs with
  | [.ref a] => (match G a with
    | some (.dic true kvs) => SortP (kvs.map fun p => dkD p.1) G R
    | _ => False)
  | _ => False
end
end L2
set_option Elab.async false
set_option linter.all false
set_option maxRecDepth 100000
set_option maxHeartbeats 4000000
namespace L2
open PySem PySem.Spec PyProof.Rows Builtin.Str
/-! ### x.split(y), str(i), tuple(l) -/
section
variable {prog : Program} {w : World} {A : Around} {E : Value → Shared → Prop} {s : Shared}
theorem sp_call {x y : Str} {t u : Tok} {Q : Value → Shared → Prop} (hy : (y.length == 0) = false) (hsz : x.length + 2 ≤ sizeLine)
    (h : ∀ l k, l.map (·.1) = Txt.split x y → Q (.ref s.heap.objs.size) { s with heap := s.heap.push { cls := .type "list", data := .seq (strValues l).toArray }, toks := k }) : wpAny (model prog w) A (call (.builtin "str.split") [.str x t, .str y u]) Q E s := by
  have hn : (partsBetween x (occurrences x y 0 x.length (x.length + 1)) y.length).length ≤ sizeLine := by
    have e1 := StrLaws.occ_length_le x y 0 x.length (x.length + 1)
    rw [length_partsBetween]; omega
  cases h1 : (decide (x.length < y.length) || decide (strKind x < strKind y))
  · cases hf : (occurrences x y 0 x.length (x.length + 1)).isEmpty
    · refine call_meets F.slot_str_split (typeIs_str _ _ _) F.entry_str_split (F.args_str_split_2 _ _) (meets_str_split_sep x y t u h1 hy hf (by omega) hn) ?_
      show wants Q E _ { s with toks := _, heap := s.heap.push { cls := .type "list", data := .seq (strsFrom s.toks (partsBetween x (occurrences x y 0 x.length (x.length + 1)) y.length)).toArray } }
      rw [strsFrom_eq]
      exact h (numbered s.toks _) _ ((numbered_texts _ _).trans ((if_neg (ne_true_of_eq_false h1)).trans (if_neg (ne_true_of_eq_false hf))).symm)
    · exact call_meets F.slot_str_split (typeIs_str _ _ _) F.entry_str_split (F.args_str_split_2 _ _) (meets_str_split_not_found x y t u h1 hy hf)
        (h [(x, t)] s.toks ((if_neg (ne_true_of_eq_false h1)).trans (if_pos hf)).symm)
  · exact call_meets F.slot_str_split (typeIs_str _ _ _) F.entry_str_split (F.args_str_split_2 _ _) (meets_str_split_cannot_occur x y t u h1) (h [(x, t)] s.toks (if_pos h1).symm)
end
theorem strs_vals : ∀ l : List (Str × Tok), Vals ((l.map (·.1)).map V.str) (strValues l)
  | [] => .nil
  | p :: r => .cons ⟨p.2, rfl⟩ (strs_vals r)
theorem strs_rds {K : Fg} {H : Hp} : ∀ l : List Str, RDs K H (l.map D.str) (l.map V.str)
  | [] => .nil
  | x :: r => .cons (.str x) (strs_rds r)
section
variable {X : Cx}
def r_split : RM3 := fun x xs G R => match x, xs with
  | .str a, [.str b] => (b.length == 0) = false ∧ a.length + 2 ≤ sizeLine ∧ (Txt.split a b).length ≤ sizeLine ∧ ∀ q, G q = none → R (.ref q) (updG G q (.lst ((Txt.split a b).map D.str)))
  | _, _ => False
theorem m_split : MtR3 X "str.split" r_split := fun pins s σ H x xs vx vs u us G R Q I rx rs ru rv g q k => by
  cases rx with
  | str j =>
    cases rs with
    | nil => exact False.elim q
    | cons r rr =>
      cases rr with
      | cons _ _ => cases r <;> exact False.elim q
      | nil =>
        cases r with
        | str i =>
          obtain ⟨t, rfl⟩ := ru
          obtain ⟨u2, rfl, t2, rfl⟩ := vals1 rv
          obtain ⟨q1, q2, q3, q4⟩ := q
          refine sp_call q1 q2 fun l tk e => ?_
          have fr : H s.heap.objs.size = none := I.hok.fresh (Nat.le_refl _)
          have sn : Same H (upd H s.heap.objs.size (.lst ((Txt.split j i).map V.str))) := same_new fr
          have J : Inv X pins σ (upd H s.heap.objs.size (.lst ((Txt.split j i).map V.str))) { s with heap := s.heap.push { cls := .type "list", data := .seq (strValues l).toArray }, toks := tk } :=
            I.laid (t' := tk) (o := .lst _) (fun b o e => Heap.get?_push_of_some _ e) (Nat.le_refl _) ⟨by rw [List.length_map]; exact q3, _, 0, by rw [← e]; exact strs_vals l, Heap.get?_push_size _ rfl⟩
          exact ⟨.ref s.heap.objs.size, _, J, rfl, k _ _ (.ref _) _ (.same sn) (.ref _) (g.put (u := .lst _) fr ⟨_, upd_same, strs_rds _⟩) (q4 _ (fresh3 g fr (kf_of J)))⟩
        | _ => exact False.elim q
  | _ =>
    cases rs with
    | nil => exact False.elim q
    | cons r rr => cases rr <;> cases r <;> exact False.elim q
def r_str : List D → Gp → VK3 → Prop := fun xs G R => match xs with
  | [.int i] => i.natAbs.log2 < 1920 ∧ R (.str (toString i)) G
  | [.str z] => R (.str z) G
  | _ => False
theorem call_str_any : CallR X (.type "str") (fun xs H Q => (∃ i, xs = [.int i] ∧ i.natAbs.log2 < 1920 ∧ Q (.str (toString i)) H) ∨ ∃ z, xs = [.str z] ∧ Q (.str z) H) := by
  intro pins s σ H xs us Q I r h
  rcases h with ⟨i, rfl, hz, q⟩ | ⟨z, rfl, q⟩
  · obtain ⟨u, rfl, t, rfl⟩ := vals1 r
    exact PySem.P.str_of_int hz ⟨.str _, H, I.tok _, ⟨_, rfl⟩, q⟩
  · obtain ⟨u, rfl, t, rfl⟩ := vals1 r
    exact PySem.P.str_of_str ⟨.str _, H, I, ⟨_, rfl⟩, q⟩
theorem c_str : CallR3 X (.type "str") r_str := CallR3.of call_str_any fun H xs vs G R Q rx g q k => by
  cases rx with
  | nil => exact False.elim q
  | cons r rr =>
    cases rr with
    | cons _ _ => cases r <;> exact False.elim q
    | nil =>
      cases r with
      | int i => exact .inl ⟨i, rfl, q.1, fun _ => k _ H _ G (.refl H) (.str _) g q.2⟩
      | str z => exact .inr ⟨z, rfl, fun _ => k _ H _ G (.refl H) (.str _) g q⟩
      | _ => exact False.elim q
def r_tuple : List D → Gp → VK3 → Prop := fun xs G R => match xs with
  | [.ref q] => (match lsOf G q with
    | some ds => R (.tup ds) G
    | none => False)
  | _ => False
theorem c_tuple : CallR3 X (.type "tuple") r_tuple := CallR3.of call_tuple_of fun H xs vs G R Q rx g q k => by
  cases rx with
  | nil => exact False.elim q
  | cons r rr =>
    cases rr with
    | cons _ _ => cases r <;> exact False.elim q
    | nil =>
      cases r with
      | ref a =>
        have q' : (match lsOf G a with
          | some ds => R (.tup ds) G
          | none => False) := q
        split at q'
        · rename_i ds e1
          obtain ⟨xs, h1, r1⟩ := lsOf_sq g e1
          refine ⟨a, xs, rfl, .inl ⟨h1, fun l hl kf => ?_⟩⟩
          have sn : Same H (upd H l (.tup xs)) := same_new hl
          exact k _ _ _ _ (.same sn) (.tup (SqT.of upd_same) (r1.mono (.same sn)) upd_same) (g.same sn) q'
        · exact q'.elim
      | _ => exact False.elim q
end
end L2
set_option Elab.async false
set_option linter.all false
set_option maxRecDepth 100000
set_option maxHeartbeats 4000000
namespace L2
open PySem PySem.Spec PyProof.Rows
/-! ### for x in t: a tuple that a name holds -/
/-- the tuples that a value rests on -/
theorem rd_tl {K : Fg} {H : Hp} : ∀ {d : D} {v : V}, RD K H d v → ∃ tl : List (Addr × List V), (∀ p ∈ tl, H p.1 = some (.tup p.2)) ∧ ∀ H2 : Hp, (∀ p ∈ tl, H2 p.1 = some (.tup p.2)) → RD K H2 d v := by
  have all : ∀ (n : Nat) {d : D} {v : V}, sizeOf d ≤ n → RD K H d v → ∃ tl : List (Addr × List V), (∀ p ∈ tl, H p.1 = some (.tup p.2)) ∧ ∀ H2 : Hp, (∀ p ∈ tl, H2 p.1 = some (.tup p.2)) → RD K H2 d v := by
    intro n
    induction n with
    | zero => intro d v h r; cases d <;> simp at h
    | succ n ih =>
      intro d v h r
      cases r with
      | non => exact ⟨[], (fun p hp => by cases hp), fun _ _ => .non⟩
      | bl b => exact ⟨[], (fun p hp => by cases hp), fun _ _ => .bl b⟩
      | int i => exact ⟨[], (fun p hp => by cases hp), fun _ _ => .int i⟩
      | str x => exact ⟨[], (fun p hp => by cases hp), fun _ _ => .str x⟩
      | ty m => exact ⟨[], (fun p hp => by cases hp), fun _ _ => .ty m⟩
      | ref a => exact ⟨[], (fun p hp => by cases hp), fun _ _ => .ref a⟩
      | @tup a xs ds sq rr e =>
        have lst : ∀ {es : List D} {ys : List V}, (∀ d ∈ es, sizeOf d ≤ n) → RDs K H es ys → ∃ tl : List (Addr × List V), (∀ p ∈ tl, H p.1 = some (.tup p.2)) ∧ ∀ H2 : Hp, (∀ p ∈ tl, H2 p.1 = some (.tup p.2)) → RDs K H2 es ys := by
          intro es
          induction es with
          | nil => intro ys _ r; cases r; exact ⟨[], (fun p hp => by cases hp), fun _ _ => .nil⟩
          | cons d es ih2 =>
            intro ys hs r
            cases r with
            | cons r1 r2 =>
              obtain ⟨t1, a1, b1⟩ := ih (hs d (by simp)) r1
              obtain ⟨t2, a2, b2⟩ := ih2 (fun d hd => hs d (by simp [hd])) r2
              refine ⟨t1 ++ t2, fun p hp => (List.mem_append.mp hp).elim (a1 p) (a2 p), fun H2 h2 => .cons (b1 H2 fun p hp => h2 p (List.mem_append_left _ hp)) (b2 H2 fun p hp => h2 p (List.mem_append_right _ hp))⟩
        obtain ⟨tl, h1, h2⟩ := lst (fun d hd => by have := List.sizeOf_lt_of_mem hd; simp at h; omega) rr
        refine ⟨(a, xs) :: tl, fun p hp => ?_, fun H2 hh => .tup (SqT.of (hh (a, xs) (by simp))) (h2 H2 fun p hp => hh p (by simp [hp])) (hh (a, xs) (by simp))⟩
        rcases List.mem_cons.mp hp with rfl | hp
        · exact e
        · exact h1 p hp
  exact fun {d v} r => all _ (Nat.le_refl _) r
def Ita (tl : List (Addr × List V)) (ys : List V) : It := ⟨fun i _ => i < ys.length, fun i H x H' => H' = H ∧ ys[i]? = some x ∧ ∀ p ∈ tl, H p.1 = some (.tup p.2), fun i _ => ys.length ≤ i⟩
theorem turn_tupP {cm : Bool} {tl tm : List (Addr × List V)} {P : Program} {w : World} {K : PySem.W.Frag} {tg : Expr} (a it : Addr) {ys : List V} (ha : (a, ys) ∈ tl) (hm : ∀ p ∈ tl, p ∈ tm) : Turn cm tm P w K tg (Ita tl ys) [it] it (fun i h => h.IsTupleIter it a i) where
  mem := by simp
  obj := fun i h st b hb => by
    have e : b = it := by simpa using hb
    subst e
    obtain ⟨o, e, c, d⟩ := st
    exact ⟨o, e, fun v z => by rw [d] at z; cases z⟩
  keep := fun i h h' st k => st.at fun o e => k it (by simp) o e
  item := by
    intro X hP hw hK hc ht i pins s σ H E I hf st hg
    subst hP hw hK
    have tt : ∀ p ∈ tl, H p.1 = some (.tup p.2) := fun p hp => I.tup p (ht p (hm p hp))
    have hq : SqT X.K H a ys := SqT.of (tt _ ha)
    have hg : i < ys.length := hg
    have hx : ys[i]? = some ys[i] := List.getElem?_eq_getElem hg
    obtain ⟨its, rv, p, hz⟩ := I.tuple hq
    obtain ⟨u, hu, ru⟩ := rv.get hx
    obtain ⟨f0, f1, f2, f3, f4, f5⟩ := hf it (by simp)
    refine wpAny_pyNext_tuple_item st (show s.heap.IsTuple a its.toArray from p) (x := u) (by simpa using hu) fun h' st' sb => ?_
    have I1 : Inv X pins σ H { s with heap := h' } := I.turned (t' := s.toks) (fun b o hb e => (sb.2 b hb).trans e) f0 f1 f3 f4 f5
    obtain ⟨o, e, c, d⟩ := id st'
    exact ⟨u, rfl, go_of (s := { s with heap := h' }) e c d (by decide) ⟨ys[i], H, I1, ru, ⟨rfl, hx, tt⟩, st', fun b hb => (hf b hb).1⟩⟩
  done := by
    intro X hP hw hK hc ht i pins s σ H E I hf st hg
    subst hP hw hK
    have hq : SqT X.K H a ys := SqT.of (I.tup _ (ht _ (hm _ ha)))
    have hg : ys.length ≤ i := hg
    obtain ⟨its, rv, p, hz⟩ := I.tuple hq
    obtain ⟨f0, f1, f2, f3, f4, f5⟩ := hf it (by simp)
    have hl := rv.length
    exact tup_stop (I.hnd.heap I.hok) st (show s.heap.IsTuple a its.toArray from p) (by simp; omega) fun h' eb => ⟨rfl, I.turned (t' := s.toks) (fun b o hb e => eb b o hb e) f0 f1 f3 f4 f5⟩
  self := fun _ _ _ _ _ st h => wpAny_pyIter_tupleiter st h
abbrev tpX (X : Cx) (tl : List (Addr × List V)) : Cx := { X with tp := tl ++ X.tp }
section
variable {X : Cx} {pins : List (Addr × Obj)} {σ : St} {H : Hp} {s : Shared} {tl : List (Addr × List V)}
theorem tp_ok (ok : X.Ok) : (tpX X tl).Ok := ⟨ok.mod, ok.kind, ok.glob, ok.blt, ok.above, ok.inj, ok.has, ok.cab, ok.hd, ok.frames, ok.stk, ok.exf, ok.bs, ok.bsz, ok.noex, ok.exfs, ok.funs, ok.frf⟩
theorem tp_no (ok : (tpX X tl).Ok) : X.Ok := ⟨ok.mod, ok.kind, ok.glob, ok.blt, ok.above, ok.inj, ok.has, ok.cab, ok.hd, ok.frames, ok.stk, ok.exf, ok.bs, ok.bsz, ok.noex, ok.exfs, ok.funs, ok.frf⟩
theorem inv_tp (I : Inv X pins σ H s) (h : ∀ p ∈ tl, H p.1 = some (.tup p.2)) : Inv (tpX X tl) pins σ H s :=
  ⟨tp_ok I.ok, I.os, I.bare, I.base, I.loc, I.cell, I.free, I.freeC, I.pin, I.hok, I.len, I.hnd, fun p hp => (List.mem_append.mp hp).elim (h p) (I.tup p)⟩
theorem inv_untp (I : Inv (tpX X tl) pins σ H s) : Inv X pins σ H s :=
  ⟨tp_no I.ok, I.os, I.bare, I.base, I.loc, I.cell, I.free, I.freeC, I.pin, I.hok, I.len, I.hnd, fun p hp => I.tup p (List.mem_append_right _ hp)⟩
theorem cat_tp {EX : St3 → EXK} (c : Cat X EX) : Cat (tpX X tl) EX := ⟨fun pins σ H s ρ e s' I sr q => c.flies pins σ H s ρ e s' (inv_untp I) sr q⟩
theorem thr_tp {EX : St3 → EXK} (c : Thr X EX) : Thr (tpX X tl) EX := ⟨fun pins σ H s ρ C e us h' I sr m q => c.made pins σ H s ρ C e us h' (inv_untp I) sr m q⟩
end
theorem sr_at {K : Fg} {H : Hp} : ∀ {ρ : St3} {σ : St} {i : Nat} {d : D}, SR K H ρ σ → ρ[i]? = some (some d) → ∃ v, σ[i]? = some (some v) ∧ RD K H d v
  | _, _, _, _, .nil, e => by simp at e
  | _, _, 0, _, .none _, e => by simp at e
  | _, _, 0, _, .some r _, e => by simp at e; subst e; exact ⟨_, rfl, r⟩
  | _, _, i + 1, d, .none r, e => by
    obtain ⟨v, h1, h2⟩ := sr_at (i := i) (d := d) r (by simpa using e)
    exact ⟨v, by simpa using h1, h2⟩
  | _, _, i + 1, d, .some _ r, e => by
    obtain ⟨v, h1, h2⟩ := sr_at (i := i) (d := d) r (by simpa using e)
    exact ⟨v, by simpa using h1, h2⟩
def tForT3 (i : Nat) (tg : TG3) (tb : TS3) : TS3 := fun F ρ G => ∃ xs, ρ[i]? = some (some (.tup xs)) ∧ ∃ P : Nat → St3 → Gp → Prop, P 0 ρ G ∧
  (∀ k d ρ G, xs[k]? = some d → P k ρ G → tg d ρ fun ρ2 => tb { F with nx := P (k + 1), ct := P (k + 1), bk := F.nx } ρ2 G) ∧ ∀ ρ G, P xs.length ρ G → F.nx ρ G
theorem s_forT {X : Cx} {tgt : Expr} {i : Nat} {x : Str} {p pos : Pos} {body : List Stmt} {tg : TG3} {tb : TS3} (hN : X.N[i]? = some x) (hv : Vis X.env.scope x) (hd : (x == ("__debug__" : Str)) = false) (hcd : (x == ("__classdict__" : Str)) = false) (hp : PassesOwn (model X.prog X.w) X.A X.env X.xe) (hg : ∀ tl, PG3 (tpX X tl) tgt tg) (hb : ∀ tl, PSs3 (tpX X tl) body tb)
    (hs : ∀ z, foldedSetIterable (.Name x p) X.env z = pure z) : PS3 X (.For tgt (.Name x p) body [] pos) (tForT3 i tg tb) := by
  intro pins s σ H F I h
  obtain ⟨ρ, G, E, sr, g, ⟨ds, eρ, P, p0, pst, pend⟩, u⟩ := h
  obtain ⟨v, ev, rv⟩ := sr_at sr eρ
  obtain ⟨tl, t1, t2⟩ := rd_tl rv
  cases rv with
  | @tup a ys _ sq rr e =>
  have I' : Inv (tpX X ((a, ys) :: tl)) pins σ H s := inv_tp I fun q hq => (List.mem_cons.mp hq).elim (fun z => z ▸ e) (t1 q)
  have hi : PI (tpX X ((a, ys) :: tl)) tgt (.Name x p) (fun σ H R => σ[i]? = some (some (V.ref a)) ∧ H a = some (.tup ys) ∧ R (Ita ((a, ys) :: tl) ys) H) := by
    intro pins s σ H R I h
    obtain ⟨h1, h2, h3⟩ := h
    refine thn (pe_var (X := tpX X ((a, ys) :: tl)) hN hv hd hcd pins s σ H (fun w H1 => w = .ref a ∧ H1 = H) I ⟨_, h1, rfl, rfl⟩) fun w s1 ⟨w1, H1, I1, r1, e1, e2⟩ => ?_
    subst e1 e2
    cases r1
    obtain ⟨its, rv', pp, hz⟩ := I1.tuple (SqT.of h2)
    refine wpAny_pyIter_tuple (show s1.heap.IsTuple a its.toArray from pp) ?_
    refine ⟨s1.heap.objs.size, [s1.heap.objs.size], _, _, H1, rfl, I1.kept (t' := s1.toks) fun b o e => Heap.get?_push_of_some _ e, turn_tupP a _ (List.mem_cons_self ..) (fun q hq => List.mem_append_left _ hq), ⟨_, Heap.get?_push_size _ rfl, rfl, rfl⟩, fun b hb => ?_, h3⟩
    have e : b = s1.heap.objs.size := by simpa using hb
    subst e
    exact I1.fpOk (Nat.le_refl _) (I1.hok.fresh (Nat.le_refl _))
  have key := ps_for (pos := pos) (X := tpX X ((a, ys) :: tl)) hp hi (hg _) (hb _) hs pins s σ H F I' ⟨ev, e, ?_⟩
  · refine thn key fun f s' z => ?_
    cases f with
    | next => obtain ⟨σ', H', J, z⟩ := z; exact ⟨σ', H', inv_untp J, z⟩
    | brk => obtain ⟨σ', H', J, z⟩ := z; exact ⟨σ', H', inv_untp J, z⟩
    | cont => obtain ⟨σ', H', J, z⟩ := z; exact ⟨σ', H', inv_untp J, z⟩
    | ret w => obtain ⟨w, σ', H', J, r, z⟩ := z; exact ⟨w, σ', H', inv_untp J, r, z⟩
  · have len := rr.length
    refine for_core (K := X.K) (n := ys.length) (fun k σ2 H2 => ∃ ρ' G', SR X.K H2 ρ' σ2 ∧ HR X.K H2 G' ∧ P k ρ' G') ⟨ρ, G, sr, g, p0⟩ (fun σ2 H2 _ => Nat.le_refl _) (fun k σ2 H2 hk _ => hk) (fun k y σ2 H2 H3 hk ⟨ρ', G', s2, g2, pk⟩ hy => ?_)
      (fun σ2 H2 ⟨ρ', G', s2, g2, pk⟩ => u.nx ρ' G' σ2 H2 s2 g2 (pend ρ' G' (by rw [len]; exact pk)))
    obtain ⟨rfl, ey, tt⟩ := hy
    have rt : RD X.K H3 (.tup ds) (.ref a) := t2 H3 fun q hq => tt q (List.mem_cons_of_mem _ hq)
    cases rt with
    | @tup _ zs _ sq2 rr2 e2 =>
    have ez : zs = ys := by
      have := tt (a, ys) (List.mem_cons_self ..)
      rw [e2] at this
      cases this; rfl
    subst ez
    obtain ⟨dk, e3, r3⟩ := rr2.getV ey
    refine ⟨ρ', dk, _, s2, r3, pst k dk ρ' G' e3 pk, fun ρ2 σ3 s3 q3 => ?_⟩
    exact ⟨ρ2, G', _, s3, g2, q3, ⟨fun ρ4 G4 σ4 H4 s4 g4 q4 => ⟨ρ4, G4, s4, g4, q4⟩, u.rt, u.nx, fun ρ4 G4 σ4 H4 s4 g4 q4 => ⟨ρ4, G4, s4, g4, q4⟩⟩⟩
end L2
set_option Elab.async false
set_option linter.all false
set_option maxRecDepth 100000
set_option maxHeartbeats 4000000
namespace L2
open PySem PySem.Spec PyProof.Rows PySem.W
/-! ### dict(..) of a list of pairs, keys numbers or texts -/
section
variable {prog : Program} {w : World} {A : Around} {E : Value → Shared → Prop} {s : Shared}
def foldK (xs ps : List (Key × Value)) : List (Key × Value) := ps.foldl (fun acc x => stored acc x.1 x.2) xs
/-- a pair, and where it does not lie -/
def PkOk (prog : Program) (w : World) (I d : Addr) (h : Heap) (v : Value) (x : Key × Value) : Prop := ∃ p o n key, v = .ref p ∧ h.get? p = some o ∧ o.cls = .type "tuple" ∧ o.data = .seq #[key, x.2] n ∧ (mixKind prog w).is x.1 key = true ∧ p ≠ I ∧ p ≠ d
theorem PkOk.keep {I d : Addr} {h h' : Heap} {v : Value} {x : Key × Value} (q : PkOk prog w I d h v x) (k : ∀ b o, b ≠ d → b ≠ I → h.get? b = some o → h'.get? b = some o) : PkOk prog w I d h' v x := by
  obtain ⟨p, o, n, key, e, h1, h2, h3, h4, h5, h6⟩ := q
  exact ⟨p, o, n, key, e, k _ _ h6 h5 h1, h2, h3, h4, h5, h6⟩
/-- the pairs in the list -/
def PkAt (prog : Program) (w : World) (h : Heap) (v : Value) (x : Key × Value) : Prop := ∃ p o n key, v = .ref p ∧ h.get? p = some o ∧ o.cls = .type "tuple" ∧ o.data = .seq #[key, x.2] n ∧ (mixKind prog w).is x.1 key = true
theorem PkAt.ok {I d : Addr} {h h' : Heap} {v : Value} {x : Key × Value} (q : PkAt prog w h v x) (hI : h.objs.size ≤ I) (hd : h.objs.size ≤ d) (k : ∀ b o, h.get? b = some o → h'.get? b = some o) : PkOk prog w I d h' v x := by
  obtain ⟨p, o, n, key, e, h1, h2, h3, h4⟩ := q
  have l1 := Heap.lt_size h1
  exact ⟨p, o, n, key, e, k _ _ h1, h2, h3, h4, Nat.ne_of_lt (Nat.lt_of_lt_of_le l1 hI), Nat.ne_of_lt (Nat.lt_of_lt_of_le l1 hd)⟩
end
def pairK : D → Option (Key × D)
  | .tup [y, z] => (match atomK y with
    | some k => some (k, z)
    | none => none)
  | _ => none
def pairsK : List D → Option (List (Key × D))
  | [] => some []
  | d :: r => match pairK d, pairsK r with
    | some p, some ps => some (p :: ps)
    | _, _ => none
def foldGK (kvs : List (DK × D)) (ps : List (Key × D)) : List (DK × D) := ps.foldl (fun acc p => putG acc (.inl p.1) p.2) kvs
inductive PrsK (K : Fg) (H : Hp) : List (Key × D) → List (Key × Value) → Prop where
  | nil : PrsK K H [] []
  | cons {k : Key} {vz : V} {u : Value} {d : D} {kvs : List (Key × D)} {ps : List (Key × Value)} : RD K H d vz → RelV vz u → PrsK K H kvs ps → PrsK K H ((k, d) :: kvs) ((k, u) :: ps)
section
variable {X : Cx}
def r_dictK : List D → Gp → VK3 → Prop := fun xs G R => match xs with
  | [.ref a] => (match lsOf G a with
    | some ds => (match pairsK ds with
      | some kvs => ∀ r, G r = none → R (.ref r) (updG G r (.dic false (foldGK [] kvs)))
      | none => False)
    | none => False)
  | _ => False
end
end L2
set_option Elab.async false
set_option linter.all false
set_option maxRecDepth 100000
set_option maxHeartbeats 4000000
namespace L2
open PySem PySem.Spec PyProof.Rows PySem.W
/-! ### z.join(reversed(l)) -/
theorem lri_nolen : typeLookup (.type "list_reverseiterator") "__len__" = pure none := by rw [typeLookup_type, builtinLookup_eq_fast]; kernel_rfl
theorem lri_hint : typeLookup (.type "list_reverseiterator") "__length_hint__" = pure (some (.builtin "list_reverseiterator.__length_hint__")) := by rw [typeLookup_type, builtinLookup_eq_fast]; kernel_rfl
section
variable {prog : Program} {w : World} {A : Around} {E : Value → Shared → Prop} {s : Shared}
theorem collect_rev {I : Addr} {fp wr : List Addr} {G : Array GenState → Array GenState → Prop} {n : Nat} {P : Nat → Value → Prop} {St : Nat → Shared → Prop} {Q : List Value → Shared → Prop} (W : WalksS prog w A.in1 I fp wr G n P St) (hT : ∀ i s, St i s → s.TypeIs (.ref I) "list_reverseiterator") (hst : St 0 s) (hfp : ∀ b ∈ fp, b < s.heap.objs.size) (hI : I ∈ fp)
    (hQ : ∀ s' acc, Moved wr G s s' → ItemsOf P acc n → Q acc.toList s') (hn : n ≤ sizeLine) : wpAny (model prog w) A (collect (.ref I)) Q E s := by
  have off : s.heap.objs.size ∉ fp := fun z => Nat.lt_irrefl _ (hfp _ z)
  have ne : s.heap.objs.size ≠ I := fun e => off (e ▸ hI)
  unfold collect
  refine wpAny_bind (wpAny_runValue (codeAny_builtin F.entry_proto_collect ?_)); rw [Around.under_plainId F.plain_proto_collect _]
  show wpAny _ A.in1 (newList [] >>= fun v => again (.builtin "list.__iadd__" ⟨[v, .ref I], []⟩)) _ _ s
  refine wpAny_bind (wpAny_newObj_type (wpAny_pure ⟨plainId_quiet F.plain_list_iadd _, codeAny_builtin F.entry_list_iadd ?_⟩)); rw [Around.under_plainId F.plain_list_iadd _]
  let o0 : Obj := { cls := .type "list", data := .seq ([] : List Value).toArray }
  have st1 := W.frame 0 s (s.heap.push o0) s.toks hst (Nat.le_refl _) fun b _ o e => Heap.get?_push_of_some _ e
  have ho : (s.heap.push o0).get? s.heap.objs.size = some o0 := Heap.get?_push_size _ rfl
  have nr : Builtin.List.listSameRef (.ref s.heap.objs.size) (.ref I) = false := by simp [Builtin.List.listSameRef, ne]
  show wpAny _ A.in1 (Builtin.List.listExtendWith (.ref s.heap.objs.size) (.ref I) (.ref s.heap.objs.size)) _ _ { s with heap := s.heap.push o0 }
  unfold Builtin.List.listExtendWith
  refine wpAny_bind (wpAny_typeOf (hT 0 _ st1) ?_); rw [if_neg (by rw [nr]; decide)]
  refine wpAny_bind (W.self 0 _ _ _ st1 (wpAny_bind (wpAny_holding ?_)))
  unfold Builtin.List.listLengthHint
  refine wpAny_bind (wpAny_specialOf (hT 0 _ st1) lri_nolen ?_)
  show wpAny _ A.in1 (specialOf (Value.ref I) (Str.ofString "__length_hint__") >>= _) _ _ _
  refine wpAny_bind (wpAny_specialOf (hT 0 _ st1) lri_hint ?_)
  (generalize hid : ("list_reverseiterator.__length_hint__" : String) = id0; (fail_if_success (clear hid id0)); wp_delta; rw [show splitId id0 = some ("list_reverseiterator", "__length_hint__") from by subst hid; decide +kernel]; subst hid)
  refine wpAny_bind (wpAny_isInstance (b := true) (hT 0 _ st1) (by rw [isSubtype_type]; kernel_rfl) (wpAny_pure ?_)); rw [if_neg (by decide)]
  refine wpAny_pure ⟨plainId_quiet F.plain_extend_loop _, codeAny_extend_loopS W hn _ off _ n 0 _ _ _ rfl (Nat.zero_le _) st1 ho (ItemsOf.nil P) fun s' acc c hm hS ha => ?_⟩
  show wpAny _ A (load s.heap.objs.size >>= _) _ _ s'
  exact wpAny_bind (wpAny_load hS (wpAny_pure (hQ s' acc (Moved.drop_new (o := o0) (tk := s.toks) hm (Nat.le_refl _)) ha)))
/-- the text joined of a list's items, the last first -/
theorem join_rev {x : Str} {t : Tok} {I l : Addr} {its : List Value} {ys : List Str} {Q : Value → Shared → Prop} (hh : A.handled = none) (ne : l ≠ I) (hit : s.heap.IsRevIter I l ((its.length : Int) - 1)) (hl : s.heap.IsList l its.toArray) (hs : StrsAre its ys) (hn : its.length ≤ sizeLine) (hok : JoinOk x ys.reverse = true)
    (hQ : ∀ t' h' tk, (∀ b o, b ≠ I → s.heap.get? b = some o → h'.get? b = some o) → Q (.str (Txt.join x ys.reverse) t') { s with heap := h', toks := tk }) : wpAny (model prog w) A (call (.builtin "str.join") [.str x t, .ref I]) Q E s := by
  refine wpAny_call (codeAny_call_builtin F.slot_str_join.plain F.entry_str_join (F.slot_str_join.check _ _ _ _ _ _ _ _ (typeIs_str _ _ _) (F.args_str_join_2 _ _) ?_)); rw [join_tree_other]
  refine wpAny_bind (wpAny_typeOf hit.typeIs ?_)
  show wpAny _ A.in1 ((pyIter (.ref I)).tryCatch _ >>= fun v => collect v >>= fun zs => joinTail x zs) _ _ s
  have sz : its.toArray.size = its.length := by simp
  have W := (Walks.listRev (prog := prog) (w := w) (A := A.in1.in1) hh I l ne its.toArray).toS
  rw [sz] at W
  have st0 : (0 : Nat) ≤ its.length ∧ s.heap.IsRevIter I l ((its.length : Int) - 1 - ((0 : Nat) : Int)) ∧ s.heap.IsList l its.toArray := ⟨Nat.zero_le _, by simpa using hit, hl⟩
  have lt : ∀ b ∈ [I, l], b < s.heap.objs.size := fun b hb => by
    obtain ⟨o1, e1, _⟩ := hit
    obtain ⟨o2, e2, _⟩ := hl
    rcases List.mem_cons.mp hb with rfl | hb
    · exact Heap.lt_size e1
    · rw [List.mem_singleton.mp hb]; exact Heap.lt_size e2
  refine wpAny_bind (wpAny_tryCatch (wpAny_pyIter_revIter hit ?_))
  refine wpAny_bind (collect_rev W (fun i s st => st.2.1.typeIs) st0 lt (List.mem_cons_self ..) (fun s' acc hm ha => ?_) hn)
  have eacc : acc.toList = its.reverse := by
    obtain ⟨a1, a2⟩ := ha
    refine List.ext_getElem? fun i => ?_
    by_cases hi : i < its.length
    · have z := a2 i (acc[i]'(by omega)) (Array.getElem?_eq_getElem (by omega))
      rw [List.getElem?_reverse hi, Array.getElem?_toList, Array.getElem?_eq_getElem (by omega), ← z]
      simp
    · rw [List.getElem?_eq_none (by simp; omega), List.getElem?_eq_none (by simp; omega)]
  rw [eacc]
  obtain ⟨q, e1, e2⟩ : ∃ q : List (Str × Tok), strValues q = its.reverse ∧ q.map (·.1) = ys.reverse := by
    clear eacc ha hQ hok hl hit W st0 lt sz hn
    induction hs with
    | nil => exact ⟨[], rfl, rfl⟩
    | cons z u r ih =>
      obtain ⟨q, e1, e2⟩ := ih
      refine ⟨q ++ [(z, u)], ?_, ?_⟩
      · rw [List.reverse_cons, ← e1]; simp [strValues]
      · rw [List.reverse_cons, ← e2]; simp
  rw [← e1]
  unfold JoinOk at hok
  rw [Bool.not_eq_true', ← e2] at hok
  have g : Gives (joinTail x (strValues q)) (joinMade x q) := by
    have g0 := gives_joinTail x q hok
    cases q with
    | nil => exact g0
    | cons p r => cases r <;> exact g0
  refine g prog w A (wants Q E) s' (post_join q ⟨joinFit_length hok, ?_⟩)
  rw [e2]
  obtain ⟨h', tk', rfl⟩ : ∃ h' tk', s' = { s with heap := h', toks := tk' } := by
    have z1 := hm.gens
    have z2 := hm.drawn
    have z3 := hm.os
    refine ⟨s'.heap, s'.toks, ?_⟩
    cases s'
    simp only at z1 z2 z3
    subst z1 z2 z3
    rfl
  intro t' k
  exact hQ t' h' k fun b o hb e => hm.1 b o (by simpa using hb) e
end
section
variable {X : Cx}
def jrevK (R : VK3) (G : Gp) : D → D → Prop
  | .str z, .ref q => (match (lsOf G q).bind strsD with
    | some ys => ((ys.reverse.map (·.length)).sum + ys.reverse.length * z.length ≤ 16777216) ∧ R (.str (Txt.join z ys.reverse)) G
    | none => False)
  | _, _ => False
theorem jrevK_of {R : VK3} {G : Gp} {x y : D} (h : jrevK R G x y) : ∃ z q ys, x = .str z ∧ y = .ref q ∧ (lsOf G q).bind strsD = some ys ∧ (ys.reverse.map (·.length)).sum + ys.reverse.length * z.length ≤ 16777216 ∧ R (.str (Txt.join z ys.reverse)) G := by
  unfold jrevK at h
  split at h
  · split at h
    · rename_i e
      exact ⟨_, _, _, rfl, rfl, e, h.1, h.2⟩
    · exact h.elim
  · exact h.elim
def jrev1 (R : VK3) (x : D) (ds : List D) (G : Gp) : Prop := match ds with
  | [y] => jrevK R G x y
  | _ => False
theorem jrev1_of {R : VK3} {x : D} {ds : List D} {G : Gp} (h : jrev1 R x ds G) : ∃ y, ds = [y] ∧ jrevK R G x y := by
  unfold jrev1 at h
  split at h
  · exact ⟨_, rfl, h⟩
  · exact h.elim
def tJRev3 (to te : TE3) : TE3 := fun ρ G R => to ρ G fun x G1 => tyOk "str" G1 x ∧ te ρ G1 fun y G2 => jrevK R G2 x y
theorem p_jrev {o e : Expr} {to te : TE3} {x : Str} {apos cpos p pos : Pos} (hc : X.calm = true) (ho : PE3 X o to) (he : PE3 X e te) (hg : Gl X x) (hm : X.mg x = none) (hv : bootBuiltins x = some (.type "reversed")) (hn : x ≠ "__name__") (hdb : (x == ("__debug__" : Str)) = false)
    (hbase : attributeBase o "join" X.env (eval o X.env) = eval o X.env)
    (hfew : ((backTo cpos (starEach [Expr.Call (.Name x p) [e] [] pos] X.env)).all (fun x => !x.1) && (backToKw cpos (keywordEach [] X.env)).all (fun x => x.1.isSome)
      && decide ([Expr.Call (.Name x p) [e] [] pos].length + ([] : List Keyword).length + (if ([] : List Keyword).isEmpty then 0 else 1) < 30)) = true)
    (hline : (apos.endLine == cpos.line) = true) (hs : starEach [e] X.env = (false, eval e X.env) :: starEach [] X.env) :
    PE3 X (.Call (.Attribute o "join" apos) [.Call (.Name x p) [e] [] pos] [] cpos) (tJRev3 to te) := by
  intro pins s σ H Q I h
  obtain ⟨ρ, G, R, sr, g, q, kk⟩ := h
  refine wpAny_Call_method_late hbase hfew hline rfl (thn (ho pins s σ H (fun vx H1 => Ts H H1 ∧ ∃ x G1, RD X.K H1 x vx ∧ HR X.K H1 G1 ∧ tyOk "str" G1 x ∧ te ρ G1 fun y G2 => jrevK R G2 x y) I ⟨ρ, G, _, sr, g, q, fun v H1 x G1 t1 r1 g1 q1 => ⟨t1, x, G1, r1, g1, q1⟩⟩) fun v s1 ⟨vx, H1, I1, r1, t1, x1, G1, rx, g1, ty, q1⟩ => ?_)
  obtain ⟨h1, h2⟩ := tyV_is I1 r1 (tyOk_V g1 rx ty)
  refine ⟨"str", "str.join", PySem.F.plainAttrs_str, PySem.F.slot_str_join, PySem.F.type_str_join, h1, h2, ?_⟩
  show wpAny _ _ (callWith cpos (.builtin "str.join") [v] ((false, eval (.Call (.Name x p) [e] [] pos) X.env) :: backTo cpos (starEach [] X.env)) _) _ _ _
  refine Calls.callWith_builtin rfl (Calls.evalArgs_plain (Calls.spliced_cons ?_))
  refine wpAny_Call_Name_kw (ld_blt I1 hg hm hv ?_ hn hdb)
  refine PyProof.Rows.callWith_type1 (thn ((a_cons he a_nil hs) pos pins s1 σ H1 (fun vs H2 => Ts H1 H2 ∧ ∃ ds G2, RDs X.K H2 ds vs ∧ HR X.K H2 G2 ∧ jrev1 R x1 ds G2) I1 ⟨ρ, G1, jrev1 R x1, sr.mono t1, g1, q1, fun vs H2 xs G2 t2 r2 g2 q2 => ⟨t2, xs, G2, r2, g2, q2⟩⟩) fun us s2 ⟨vs, H2, I2, r2, t2, ds, G2, rs, g2, q2⟩ => ?_) hs rfl
  obtain ⟨y, rfl, q3⟩ := jrev1_of q2
  obtain ⟨z, a, ys, rfl, rfl, e1, sz, qr⟩ := jrevK_of q3
  cases rx
  obtain ⟨tz, rfl⟩ := r1
  cases rs with
  | cons ra rr =>
  cases rr
  cases ra
  obtain ⟨u2, rfl, ru2⟩ := vals1 r2
  cases ru2
  obtain ⟨es, e2, e3⟩ := Option.bind_eq_some_iff.mp e1
  obtain ⟨ws, hq, rw1⟩ := lsOf_sq g2 e2
  obtain ⟨its, rv', pl, hz⟩ := I2.list hq
  have ha : a < s2.heap.objs.size := by obtain ⟨o, n, e, _⟩ := pl; exact Heap.lt_size e
  refine call_reversed_list pl.isList ?_
  refine Calls.spliced_nil ?_
  have i1 : ((its.toArray.size : Nat) : Int) - 1 = (its.length : Int) - 1 := by simp
  rw [i1]
  have ne : a ≠ s2.heap.objs.size := Nat.ne_of_lt ha
  refine join_rev (I := s2.heap.objs.size) (l := a) (I2.ok.hd hc) ne ⟨_, Heap.get?_push_size _ rfl, rfl, rfl⟩ (pl.isList.at fun o e => Heap.get?_push_of_some _ e) (strs_are rw1 rv' e3) (by rw [← rv'.length]; exact hz) (joinOk_of sz) fun t' h' tk kp => ?_
  refine ⟨.str _, H2, I2.kept fun b o e => kp b o (fun z => ?_) (Heap.get?_push_of_some _ e), ⟨t', rfl⟩, kk _ H2 _ G2 (t1.trans t2) (.str _) g2 qr⟩
  rw [z] at e
  exact absurd (Heap.lt_size e) (Nat.lt_irrefl _)
end
end L2
set_option Elab.async false
set_option linter.all false
set_option maxRecDepth 100000
set_option maxHeartbeats 4000000
namespace L4
open PySem PySem.Spec PyProof.Rows L2
/-! ### a text's reading by a certificate: what each name means, slot by slot -/
inductive BF where
  | len | abs | isi
  deriving DecidableEq
inductive MK where
  | append | join | split
  deriving DecidableEq
inductive DM where
  | sdf | pop
  deriving DecidableEq
inductive GT where
  | con (d : D) | cls (a : Addr) | fn (sp : Sp3) (n : Nat) (qt : Bool) | bf (b : BF) | bt (n : String) | kl (C : Addr) (sp : Sp3) (dd : List D) | me (C : Addr) (m : Str) (sp : Sp3) (dd : List D) | fl (C : Addr) (f : Str)
structure SI where
  N : List Str
  fl : List Bool
  lc : List Bool
  ce : List Bool
  gl : List (Str × GT)
  gv : List Bool
  calm : Bool
mutual
inductive CE where
  | var (i : Nat) | con (d : D) | glo (k : Nat) | neg (a : CE) | notv (a : CE) | bin (o : Operator) (a b : CE) | cmp (o : CmpOp) (a b : CE) | chain (o o' : CmpOp) (a b c : CE)
  | andv (es : CEs) | tup (es : CEs) | lst (es : CEs) | ix (a b : CE) | sl (a : CE) (lo hi : CO) | call (k : Nat) (es : CEs) | meth (m : MK) (o : CE) (es : CEs)
  | comp (fl gv : List Bool) (ci : CI) (cc : CC) (e : CE) | jrev (k : Nat) (o e : CE) | nev
inductive CEs where
  | nil | cons (e : CE) (r : CEs)
inductive CT where
  | cmp (o : CmpOp) (a b : CE) | chain (o o' : CmpOp) (a b c : CE) | not (t : CT) | or (ts : CTs) | val (e : CE)
inductive CTs where
  | nil | cons (t : CT) (r : CTs)
inductive CO where
  | none | some (e : CE)
inductive CI where
  | any (e : CE) | rng1 (e : CE)
inductive CC where
  | none | some (t : CT)
end
abbrev SI.cmp (S : SI) (xs : List Str) (fl gv : List Bool) : SI := ⟨xs ++ S.N, xs.map (fun _ => true) ++ fl, xs.map (fun _ => true) ++ S.N.map (fun _ => false), xs.map (fun _ => false) ++ fl, S.gl, gv, S.calm⟩
/-! ### what it means -/
def bad3 : TE3 := fun _ _ _ => False
def badT3 : TT3 := fun _ _ _ => False
def NoX : St3 → EXK := fun _ _ _ => False
def rBin3 : Operator → R3
  | .Add => rAdd3
  | .Sub => rSub3
  | .Mult => rMul3
  | .FloorDiv => rFdiv3
  | .Mod => rMod3
  | .Pow => rPow3
  | _ => fun _ _ _ _ => False
def rCmp3 : CmpOp → R3
  | .Eq => rEq3
  | .NotEq => rNe3
  | .Lt => rLt3
  | .LtE => rLe3
  | .Gt => rGt3
  | .GtE => rGe3
  | .Is => rIs3
  | .IsNot => rIsnt3
  | .In => rIn3
  | .NotIn => rNotIn3
def rDeep : Bool → R3
  | true => rNeD3
  | false => rEqD3
def rBF3 (K : Fg) : BF → List D → Gp → VK3 → Prop
  | .len => r_len
  | .abs => r_abs
  | .isi => r_isinstance K
def rBT3 (n : String) : List D → Gp → VK3 → Prop := if n = "int" then r_int else if n = "list" then r_list else if n = "str" then r_str else if n = "tuple" then r_tuple else fun _ _ _ => False
def dmN : DM → Str
  | .sdf => "setdefault"
  | .pop => "pop"
def dmR : DM → RM3
  | .sdf => r_sdf
  | .pop => r_dpop
def mkT : MK → String
  | .append => "list"
  | .join => "str"
  | .split => "str"
def mkR : MK → RM3
  | .append => r_append
  | .join => r_join
  | .split => r_split
def mkN : MK → Str
  | .append => "append"
  | .join => "join"
  | .split => "split"
def mGlo (T : List (Str × GT)) (k : Nat) : TE3 := match T[k]? with
  | some (_, .con d) => tC3 d
  | some (_, .cls a) => tC3 (.ref a)
  | some (_, .bt n) => tC3 (.ty n)
  | _ => bad3
def mCal (T : List (Str × GT)) (K : Fg) (ex : St3 → EXK) (k : Nat) (t : TA3) : TE3 := match T[k]? with
  | some (_, .fn sp _ _) => tCallX sp ex t
  | some (_, .cls a) => tExc3 a t
  | some (_, .bf b) => tCB3 (rBF3 K b) t
  | some (_, .bt n) => tCB3 (rBT3 n) t
  | some (_, .kl C sp dd) => tMakeX C sp dd ex t
  | _ => bad3
def mFld (T : List (Str × GT)) (k : Nat) (t : TE3) : TE3 := match T[k]? with
  | some (_, .fl C f) => tFld3 C t f
  | _ => bad3
def mMet (T : List (Str × GT)) (ex : St3 → EXK) (k : Nat) (to : TE3) (t : TA3) : TE3 := match T[k]? with
  | some (_, .me C m sp dd) => tMethX C m sp dd ex to t
  | _ => bad3
def rDin : Bool → R3
  | true => r_dnin
  | false => r_din
mutual
def mE (T : List (Str × GT)) (K : Fg) (ex : St3 → EXK) : CE → TE3
  | .var i => tVar3 i
  | .con d => tC3 d
  | .glo k => mGlo T k
  | .neg a => tNeg3 (mE T K ex a)
  | .notv a => tNotV3 (mE T K ex a)
  | .bin o a b => tOp3 (rBin3 o) (mE T K ex a) (mE T K ex b)
  | .cmp o a b => tOp3 (rCmp3 o) (mE T K ex a) (mE T K ex b)
  | .chain o o' a b c => tChain3 (rCmp3 o) (rCmp3 o') (mE T K ex a) (mE T K ex b) (mE T K ex c)
  | .andv es => mAnd T K ex es
  | .tup es => tTup3 (mA T K ex es)
  | .lst es => tLst3 (mA T K ex es)
  | .ix a b => tOp3 rIx3 (mE T K ex a) (mE T K ex b)
  | .sl a lo hi => tSlice3 (mE T K ex a) (mO T K ex lo) (mO T K ex hi)
  | .call k es => mCal T K ex k (mA T K ex es)
  | .meth m o .nil => tM03 (mkT m) (mkR m) (mE T K ex o)
  | .meth m o (.cons e r) => tM3 (mkT m) (mkR m) (mE T K ex o) (tCons3 (mE T K ex e) (mA T K ex r))
  | .comp _ _ ci cc e => tComp3 (mI T K ex ci) (mC T K cc) (mE T K NoX e)
  | .jrev _ o e => tJRev3 (mE T K ex o) (mE T K ex e)
  | .nev => bad3
def mA (T : List (Str × GT)) (K : Fg) (ex : St3 → EXK) : CEs → TA3
  | .nil => tNil3
  | .cons e r => tCons3 (mE T K ex e) (mA T K ex r)
def mAnd (T : List (Str × GT)) (K : Fg) (ex : St3 → EXK) : CEs → TE3
  | .nil => bad3
  | .cons e .nil => mE T K ex e
  | .cons e (.cons e' r) => tAndV3 (mE T K ex e) (mAnd T K ex (.cons e' r))
def mOr (T : List (Str × GT)) (K : Fg) (ex : St3 → EXK) : CEs → TE3
  | .nil => bad3
  | .cons e .nil => mE T K ex e
  | .cons e (.cons e' r) => tOrV3 (mE T K ex e) (mOr T K ex (.cons e' r))
def mT (T : List (Str × GT)) (K : Fg) (ex : St3 → EXK) : CT → TT3
  | .cmp o a b => tTest3 (tOp3 (rCmp3 o) (mE T K ex a) (mE T K ex b))
  | .chain o o' a b c => tTest3 (tChain3 (rCmp3 o) (rCmp3 o') (mE T K ex a) (mE T K ex b) (mE T K ex c))
  | .not t => tNot3 (mT T K ex t)
  | .or ts => mTOr T K ex ts
  | .val e => tTest3 (mE T K ex e)
def mTAnd (T : List (Str × GT)) (K : Fg) (ex : St3 → EXK) : CTs → TT3
  | .nil => badT3
  | .cons e .nil => mT T K ex e
  | .cons e (.cons e' r) => tAnd3 (mT T K ex e) (mTAnd T K ex (.cons e' r))
def mTOr (T : List (Str × GT)) (K : Fg) (ex : St3 → EXK) : CTs → TT3
  | .nil => badT3
  | .cons e .nil => mT T K ex e
  | .cons e (.cons e' r) => tOr3 (mT T K ex e) (mTOr T K ex (.cons e' r))
def mO (T : List (Str × GT)) (K : Fg) (ex : St3 → EXK) : CO → TO3
  | .none => tNoPart3
  | .some e => tPart3 (mE T K ex e)
def mI (T : List (Str × GT)) (K : Fg) (ex : St3 → EXK) : CI → TI3
  | .any e => tiAny3 (mE T K ex e)
  | .rng1 e => tiRng1 (tCons3 (mE T K ex e) tNil3)
def mC (T : List (Str × GT)) (K : Fg) : CC → TT3
  | .none => tTrue3
  | .some t => mT T K NoX t
end
/-! ### what it is a certificate of -/
def isStar : Expr → Bool
  | .Starred .. => true
  | _ => false
def isSlice : Expr → Bool
  | .Slice .. => true
  | _ => false
def notSuper : Expr → Bool
  | .Call (.Name id _) [] [] _ => id != ("super" : Str)
  | _ => true
def isSet : Expr → Bool
  | .Set .. => true
  | _ => false
def bfName : BF → String
  | .len => "len"
  | .abs => "abs"
  | .isi => "isinstance"
def bfVal : BF → Value
  | b => .builtin (bfName b)
def bfFree : BF → Bool
  | .len => true
  | .abs => true
  | .isi => true
def rangeIn (S : SI) : Bool := (List.range S.gl.length).any fun k => S.gv[k]? == some true && match S.gl[k]? with
  | some (y, .bt n) => y == ("range" : Str) && n == "range"
  | _ => false
def zipIn (S : SI) : Bool := (List.range S.gl.length).any fun k => S.gv[k]? == some true && match S.gl[k]? with
  | some (y, .bt n) => y == ("zip" : Str) && n == "zip"
  | _ => false
def maxAt (S : SI) (k : Nat) (x : Str) : Bool := match S.gl[k]? with
  | some (y, .bf b) => y == x && bfVal b == .builtin "max"
  | _ => false
def ceIn (S : SI) (y : Str) : Bool := (List.range S.N.length).any fun i => S.N[i]? == some y && S.ce[i]? == some true
def nodupB : List Str → Bool
  | [] => true
  | x :: r => !r.contains x && nodupB r
def nmsOf : List Expr → Option (List Str)
  | [] => some []
  | .Name x _ :: r => (nmsOf r).map (x :: ·)
  | _ => none
def cmpOk (S : SI) (xs : List Str) (scope : Scope) (fl gv : List Bool) : Bool :=
  scope.kind == .function && scope.names.all (fun y => y.2 != .cell && (y.2 != .local || scope.names.lookup y.1 == some .local) && (y.2 != .free || ceIn S y.1)) &&
  xs.all (fun x => scope.names.lookup x == some .local && !S.N.contains x && x != ("__debug__" : Str) && x != ("__classdict__" : Str)) && nodupB xs &&
  S.N.all (fun y => scope.names.lookup y != some .local) &&
  (List.range S.N.length).all (fun i => fl[i]? != some true || (S.fl[i]? == some true && match S.N[i]? with
    | some y => scope.names.lookup y == some .free
    | none => false)) &&
  (List.range S.gl.length).all (fun k => gv[k]? != some true || match S.gl[k]? with
    | some (y, _) => scope.names.lookup y == some .globalImplicit
    | none => false)
def conOk : D → Const → Bool
  | .int i, .int j => i == j
  | .str s, .str t => s == t
  | .bl b, .bool c => b == c
  | .non, .none => true
  | _, _ => false
def plainT : Expr → Bool
  | .UnaryOp .Not _ _ => false
  | .BoolOp .. => false
  | .IfExp .. => false
  | .Compare .. => false
  | _ => true
def gloOk (S : SI) (k : Nat) (x : Str) : Bool := match S.gl[k]? with
  | some (y, .con _) => y == x
  | some (y, .cls _) => y == x
  | some (y, .bt _) => y == x
  | _ => false
def calOk (S : SI) (k : Nat) (x : Str) (e : Bool) : Bool := match S.gl[k]? with
  | some (y, .fn _ _ qt) => y == x && (qt || S.calm)
  | some (y, .cls _) => y == x
  | some (y, .bf b) => y == x && e && (S.calm || bfFree b)
  | some (y, .bt _) => y == x && e
  | some (y, .kl _ _ _) => y == x && S.calm
  | _ => false
def flAt (S : SI) (k : Nat) (x : Str) : Bool := match S.gl[k]? with
  | some (_, .fl _ f) => f == x
  | _ => false
def meAt (S : SI) (k : Nat) (x : Str) : Bool := match S.gl[k]? with
  | some (_, .me _ m _ _) => m == x
  | _ => false
def revAt (S : SI) (k : Nat) (x : Str) : Bool := match S.gl[k]? with
  | some (y, .bt n) => y == x && n == "reversed"
  | _ => false
def callOne : Expr → Option (Str × Expr)
  | .Call (.Name x _) [z] [] _ => some (x, z)
  | _ => none
mutual
def kE (S : SI) : CE → Expr → Bool
  | .var i, .Name x _ => S.N[i]? == some x && S.fl[i]? == some true
  | .con d, .Constant c _ _ => conOk d c
  | .glo k, .Name x _ => S.gv[k]? == some true && gloOk S k x
  | .neg a, .UnaryOp .USub e _ => kE S a e
  | .notv a, .UnaryOp .Not e _ => kE S a e
  | .bin o a b, .BinOp x o' y _ => o == o' && kE S a x && kE S b y
  | .cmp o a b, .Compare x [o'] [y] _ => o == o' && !behindInMarks o' y && kE S a x && kE S b y
  | .chain o o' a b c, .Compare x [p, p'] [y, z] _ => o == p && o' == p' && !lastMarks [p, p'] [y, z] && kE S a x && kE S b y && kE S c z
  | .andv es, .BoolOp .And xs _ => kEs S es xs
  | .tup es, .Tuple xs _ _ => kEs S es xs
  | .lst es, .List xs _ => kEs S es xs
  | .ix a b, .Subscript x y _ => !isSlice y && kE S a x && kE S b y
  | .sl a lo hi, .Subscript x (.Slice l h none _) _ => kE S a x && kO S lo l && kO S hi h
  | .call k es, .Call (.Name x _) xs [] _ => kEs S es xs && S.gv[k]? == some true && calOk S k x (!xs.isEmpty)
  | .meth m o es, .Call (.Attribute y n ap) xs [] cp => n == mkN m && notSuper y && ap.endLine == cp.line && decide (xs.length < 30) && kE S o y && kEs S es xs
  | .comp fl gv ci cc e, .ListComp elt [⟨.Name x _, iter, ifs, a⟩] scope _ => a == 0 && cmpOk S [x] scope fl gv && !isSet iter && kI S false ci iter && kC (S.cmp [x] fl gv) cc ifs && kE (S.cmp [x] fl gv) e elt
  | .jrev k o e, .Call (.Attribute y n ap) [w] [] cp => n == ("join" : Str) && S.calm && S.gv[k]? == some true && notSuper y && ap.endLine == cp.line && kE S o y && (match callOne w with
    | some (x, z) => revAt S k x && !isStar z && kE S e z
    | none => false)
  | .nev, _ => true
  | _, _ => false
def kEs (S : SI) : CEs → List Expr → Bool
  | .nil, [] => true
  | .cons e r, x :: xs => !isStar x && kE S e x && kEs S r xs
  | _, _ => false
def kT (S : SI) : CT → Expr → Bool
  | .cmp o a b, .Compare x [o'] [y] _ => o == o' && !behindInMarks o' y && kE S a x && kE S b y
  | .chain o o' a b c, .Compare x [p, p'] [y, z] _ => o == p && o' == p' && !lastMarks [p, p'] [y, z] && kE S a x && kE S b y && kE S c z
  | .not t, .UnaryOp .Not e _ => kT S t e
  | .or ts, .BoolOp .Or xs _ => kTs S ts xs
  | .val e, x => plainT x && kE S e x
  | _, _ => false
def kTs (S : SI) : CTs → List Expr → Bool
  | .nil, [] => true
  | .cons e r, x :: xs => kT S e x && kTs S r xs
  | _, _ => false
def kO (S : SI) : CO → Option Expr → Bool
  | .none, none => true
  | .some e, some x => kE S e x
  | _, _ => false
def kI (S : SI) (tt : Bool) : CI → Expr → Bool
  | .any e, x => kE S e x
  | .rng1 e, .Call (.Name r _) [y] [] _ => r == ("range" : Str) && rangeIn S && !isStar y && kE S e y
  | _, _ => false
def kC (S : SI) : CC → List Expr → Bool
  | .none, [] => true
  | .some t, [x] => kT S t x
  | _, _ => false
end
end L4
set_option Elab.async false
set_option linter.all false
set_option maxRecDepth 100000
set_option maxHeartbeats 4000000
namespace L4
open PySem PySem.Spec PyProof.Rows L2
theorem star_ns {e : Expr} {es : List Expr} {env : Env} (h : isStar e = false) : starEach (e :: es) env = (false, eval e env) :: starEach es env := by
  cases e <;> first | rfl | (exact absurd (show true = false from h) (by decide))
theorem kEs_star {S : SI} {env : Env} {pos : Pos} : ∀ {cs : CEs} {xs : List Expr}, kEs S cs xs = true → (backTo pos (starEach xs env)).any (·.1) = false
  | .nil, [], _ => rfl
  | .nil, _ :: _, h => absurd (show false = true from h) (by decide)
  | .cons _ _, [], h => absurd (show false = true from h) (by decide)
  | .cons e r, x :: xs, h => by
    have h' : (!isStar x && kE S e x && kEs S r xs) = true := h
    simp only [Bool.and_eq_true, Bool.not_eq_true'] at h'
    rw [star_ns h'.1.1]
    show (false || (backTo pos (starEach xs env)).any (·.1)) = false
    rw [kEs_star h'.2]; rfl
theorem base_ns {o : Expr} {n : Str} {env : Env} (h : notSuper o = true) : attributeBase o n env (eval o env) = eval o env := by
  cases o with
  | Call f args kws pos =>
    cases f with
    | Name id p =>
      cases args with
      | nil =>
        cases kws with
        | nil =>
          have h' : (id != ("super" : Str)) = true := h
          unfold attributeBase
          simp only [h', Bool.true_or, if_true]
        | cons _ _ => rfl
      | cons _ _ => cases kws <;> rfl
    | _ => rfl
  | _ => rfl
abbrev BMv : List Value := [.type "ValueError", .type "Exception", .type "BaseException", .type "object"]
def GTok (X : Cx) (cm : Bool) (x : Str) : GT → Prop
  | .con d => ∃ u v, X.mg x = some u ∧ RelV v u ∧ ∀ H, RD X.K H d v
  | .cls a => X.mg x = some (.ref a) ∧ PySem.W.excIn X.K a BMv "ValueError.__new__" = true
  | .fn sp n qt => (qt = true ∨ cm = true) → ∃ k f fd ps, FnOk qt X.prog X.w X.K X.mg X.base (CX1 X.prog X.w) k f fd ps (upSp X.K sp) ∧ Room qt k X.A ∧ X.mg x = some (.ref f) ∧ PySem.W.keepIn X.K (.ref f) = true ∧ Binds X.K fd ps []
  | .bf b => X.mg x = none ∧ bootBuiltins x = some (bfVal b)
  | .bt n => X.mg x = none ∧ bootBuiltins x = some (.type n)
  | .kl C sp dd => cm = true → ∃ k f fd ps ds dvs, Mk X.K C f ∧ FnOk false X.prog X.w X.K X.mg X.base (CX1 X.prog X.w) k f fd ps (upSp X.K sp) ∧ Room false (k + 1) X.A ∧ X.mg x = some (.ref C) ∧ Binds X.K fd ps ds ∧ Vals dvs ds ∧ ∀ H, RDs X.K H dd dvs
  | .me C m sp dd => cm = true → ∃ k f fd ps ds dvs, Cls X.K C ∧ Meth X.K C m f ∧ FnOk false X.prog X.w X.K X.mg X.base (CX1 X.prog X.w) k f fd ps (upSp X.K sp) ∧ Room false k X.A ∧ Binds X.K fd ps ds ∧ Vals dvs ds ∧ ∀ H, RDs X.K H dd dvs
  | .fl C f => Cls X.K C ∧ NoAttr X.K C f
structure SIok (X : Cx) (S : SI) (ex : St3 → EXK) : Prop where
  N : X.N = S.N
  nd : X.N.Nodup
  vis : ∀ (i : Nat) (x : Str), S.N[i]? = some x → S.fl[i]? = some true → Vis X.env.scope x ∧ (x == ("__debug__" : Str)) = false ∧ (x == ("__classdict__" : Str)) = false
  ce : ∀ (i : Nat) (x : Str), S.N[i]? = some x → S.ce[i]? = some true → X.env.kindOf x = some .cell ∨ X.env.kindOf x = some .free
  gm : ∀ (k : Nat) (x : Str) (g : GT), S.gl[k]? = some (x, g) → (S.gv[k]? = some true → Gl X x) ∧ (x == ("__debug__" : Str)) = false ∧ x ≠ "__name__" ∧ GTok X S.calm x g
  hu : X.A.units + 64 < cLine
  cm : S.calm = true → X.calm = true
  cat : Cat X ex
theorem SIok.gl {X : Cx} {S : SI} {ex : St3 → EXK} (Q : SIok X S ex) (k : Nat) (x : Str) (g : GT) (h : S.gl[k]? = some (x, g)) (hv : S.gv[k]? = some true) : Gl X x ∧ (x == ("__debug__" : Str)) = false ∧ x ≠ "__name__" ∧ GTok X S.calm x g :=
  ⟨(Q.gm k x g h).1 hv, (Q.gm k x g h).2⟩
section
variable {X : Cx} {S : SI} {ex : St3 → EXK}
theorem bad_ok {e : Expr} : PE3 X e bad3 := fun _ _ _ _ _ _ ⟨_, _, _, _, _, z, _⟩ => z.elim
theorem rBin_ok {o : Operator} : OpR3 X (binaryOp o) (rBin3 o) := by
  have no : ∀ {f : Value → Value → Sem Value}, OpR3 X f (fun _ _ _ _ => False) := fun {f} => ⟨fun _ _ _ _ => False, fun _ _ _ _ _ _ _ _ _ _ _ _ h => h.elim, fun _ _ _ _ _ _ _ _ _ _ _ h _ => h.elim⟩
  exact match o with
  | .Add => o_add
  | .Sub => o_sub
  | .Mult => o_mul
  | .FloorDiv => o_fdiv
  | .Mod => o_mod
  | .Pow => o_pow
  | .MatMult => no
  | .Div => no
  | .LShift => no
  | .RShift => no
  | .BitOr => no
  | .BitXor => no
  | .BitAnd => no
theorem rCmp_ok {o : CmpOp} (hu : X.A.units + 64 < cLine) : OpC3 X (compareOp o) (rCmp3 o) := by
  exact match o with
  | .Eq => o_eq hu
  | .NotEq => o_ne hu
  | .Lt => o_lt
  | .LtE => o_le
  | .Gt => o_gt
  | .GtE => o_ge
  | .Is => o_is
  | .IsNot => o_isnt
  | .In => o_in hu
  | .NotIn => o_notin hu
theorem bt_ok {n : String} : CallR3 X (.type n) (rBT3 n) := by
  unfold rBT3
  split
  · rename_i h; subst h; exact c_int
  · split
    · rename_i h; subst h; exact c_list
    · split
      · rename_i h; subst h; exact c_str
      · split
        · rename_i h; subst h; exact c_tuple
        · exact fun _ _ _ _ _ _ _ _ _ _ _ _ _ _ h _ => h.elim
/-- f() -/
theorem p_callX0 {qt : Bool} {k : Nat} {f : Addr} {fd : FuncData} {ps : List Str} {sp : Sp3} {x : Str} {p pos : Pos} (F : FnOk qt X.prog X.w X.K X.mg X.base (CX1 X.prog X.w) k f fd ps (upSp X.K sp)) (hr : Room qt k X.A) (hg : Gl X x) (hm : X.mg x = some (.ref f)) (hk : PySem.W.keepIn X.K (.ref f) = true) (hb : Binds X.K fd ps []) (hx : Cat X ex)
    (hdb : (x == ("__debug__" : Str)) = false) : PE3 X (.Call (.Name x p) [] [] pos) (tCallX sp ex tNil3) := by
  intro pins s σ H Q I h
  obtain ⟨ρ, G, R, sr, g, q, kk⟩ := h
  refine wpAny_Call_Name_kw (ld_glob I hg hm ?_ hdb)
  refine PySem.W.callWith_K0 I.kIn hk ?_
  exact run_fn3 (E := liftX X.K (ex ρ)) F hr hb (fun e s' c => hx.flies pins σ H s ρ e s' I sr c) I .nil (Q := fun v H' => ∃ d G', RD X.K H' d v ∧ HR X.K H' G' ∧ R d G') ⟨[], G, R, ex ρ, .nil, g, q, fun v H' d G' r2 g2 q2 => ⟨d, G', r2, g2, q2⟩, fun C H' G' g' q' => ⟨C, G', rfl, g', q'⟩⟩ fun v H' t2 ⟨d, G', r2, g2, q2⟩ => kk v H' d G' t2 r2 g2 q2
theorem few_ok {xs : List Expr} {cs : CEs} {cp : Pos} (h : kEs S cs xs = true) (hl : xs.length < 30) : ((backTo cp (starEach xs X.env)).all (fun x => !x.1) && (backToKw cp (keywordEach [] X.env)).all (fun x => x.1.isSome)
      && decide (xs.length + ([] : List Keyword).length + (if ([] : List Keyword).isEmpty then 0 else 1) < 30)) = true := by
  have h1 : (backTo cp (starEach xs X.env)).all (fun x => !x.1) = true := by
    rw [List.all_eq_true]
    intro y hy
    have := kEs_star (env := X.env) (pos := cp) h
    rw [List.any_eq_false] at this
    have := this y hy
    simpa using this
  have h2 : (decide (xs.length + ([] : List Keyword).length + (if ([] : List Keyword).isEmpty then 0 else 1) < 30)) = true := decide_eq_true (by simpa using hl)
  rw [h1, h2]; rfl
end
end L4
set_option Elab.async false
set_option linter.all false
set_option maxRecDepth 100000
set_option maxHeartbeats 4000000
namespace L4
open PySem PySem.Spec PyProof.Rows L2
section
variable {X : Cx} {S : SI} {ex : St3 → EXK}
theorem con_ok {d : D} {c : Const} {j : Nat} {pos : Pos} (h : conOk d c = true) : PE3 X (.Constant c j pos) (tC3 d) := by
  cases d <;> cases c <;> first | exact absurd (show false = true from h) (by decide) | skip
  · exact p_non
  · have := beq_iff_eq.mp h; subst this; exact p_bl
  · have := beq_iff_eq.mp h; subst this; exact p_int
  · have := beq_iff_eq.mp h; subst this; exact p_str
theorem val_ok {e : Expr} (h : plainT e = true) : ∀ whole, isTrue e X.env whole = (do let v ← whole; standAt e.pos; holding [v] (truthy v)) := by
  cases e with
  | UnaryOp op x p => cases op <;> first | exact absurd (show false = true from h) (by decide) | (intro _; rfl)
  | BoolOp _ _ _ => exact absurd (show false = true from h) (by decide)
  | IfExp _ _ _ _ => exact absurd (show false = true from h) (by decide)
  | Compare _ _ _ _ => exact absurd (show false = true from h) (by decide)
  | _ => intro _; rfl
theorem ix_ok {e : Expr} (h : isSlice e = false) : PlainIx e := by
  cases e with
  | Slice _ _ _ _ => exact absurd (show true = false from h) (by decide)
  | _ => intro _ _; rfl
theorem bf_ok (Q : SIok X S ex) {k : Nat} {x : Str} {b : BF} (hk : S.gl[k]? = some (x, .bf b)) (hv : S.gv[k]? = some true) (hc : (S.calm || bfFree b) = true) {e : Expr} {es : List Expr} {t : TA3} {p pos : Pos} (ha : PA3 X (e :: es) t) (he : isStar e = false) (hp : (backTo pos (starEach es X.env)).any (·.1) = false) : PE3 X (.Call (.Name x p) (e :: es) [] pos) (tCB3 (rBF3 X.K b) t) := by
  obtain ⟨h1, h2, h3, h4⟩ := Q.gl _ _ _ hk hv
  have cm : bfFree b = false → X.calm = true := fun z => by
    rw [z, Bool.or_false] at hc
    exact Q.cm hc
  cases b with
  | len => exact p_callB c_len h1 h4.1 h4.2 ha h3 h2 (star_ns he) hp
  | abs => exact p_callB c_abs h1 h4.1 h4.2 ha h3 h2 (star_ns he) hp
  | isi => exact p_callB c_isinstance h1 h4.1 h4.2 ha h3 h2 (star_ns he) hp
theorem meth_ok {m : MK} {o : Expr} {to : TE3} {ap cp : Pos} (ho : PE3 X o to) (hb : notSuper o = true) (hl : (ap.endLine == cp.line) = true) : PE3 X (.Call (.Attribute o (mkN m) ap) [] [] cp) (tM03 (mkT m) (mkR m) to) := by
  cases m with
  | append => exact p_bm0 PySem.F.plainAttrs_list PySem.F.slot_list_append PySem.F.type_list_append m_append ho (base_ns hb) hl
  | join => exact p_bm0 PySem.F.plainAttrs_str PySem.F.slot_str_join PySem.F.type_str_join m_join ho (base_ns hb) hl
  | split => exact p_bm0 PySem.F.plainAttrs_str PySem.F.slot_str_split PySem.F.type_str_split m_split ho (base_ns hb) hl
theorem meth_ok1 {m : MK} {o e : Expr} {es : List Expr} {to : TE3} {t : TA3} {cs : CEs} {ap cp : Pos} (ho : PE3 X o to) (ha : PA3 X (e :: es) t) (hb : notSuper o = true) (hl : (ap.endLine == cp.line) = true) (hk : kEs S cs (e :: es) = true) (hn : (e :: es).length < 30) :
    PE3 X (.Call (.Attribute o (mkN m) ap) (e :: es) [] cp) (tM3 (mkT m) (mkR m) to t) := by
  have he : isStar e = false := by
    cases cs with
    | nil => exact absurd (show false = true from hk) (by decide)
    | cons c r =>
      have h' : (!isStar e && kE S c e && kEs S r es) = true := hk
      simp only [Bool.and_eq_true, Bool.not_eq_true'] at h'
      exact h'.1.1
  have hp : (backTo cp (starEach es X.env)).any (·.1) = false := by
    have := kEs_star (env := X.env) (pos := cp) hk
    rw [star_ns he] at this
    have z : (false || (backTo cp (starEach es X.env)).any (·.1)) = false := this
    simpa using z
  cases m with
  | append => exact p_bm PySem.F.plainAttrs_list PySem.F.slot_list_append PySem.F.type_list_append m_append ho ha (base_ns hb) (few_ok hk hn) hl (star_ns he) hp
  | join => exact p_bm PySem.F.plainAttrs_str PySem.F.slot_str_join PySem.F.type_str_join m_join ho ha (base_ns hb) (few_ok hk hn) hl (star_ns he) hp
  | split => exact p_bm PySem.F.plainAttrs_str PySem.F.slot_str_split PySem.F.type_str_split m_split ho ha (base_ns hb) (few_ok hk hn) hl (star_ns he) hp
local macro_rules | `(tactic| walk_at "off") => `(tactic| exact absurd (show false = true from by assumption) (by decide))
theorem glo_ok (Q : SIok X S ex) {k : Nat} {x : Str} {p : Pos} (h : kE S (.glo k) (.Name x p) = true) : PE3 X (.Name x p) (mGlo S.gl k) := by
  have h' : (S.gv[k]? == some true && gloOk S k x) = true := h
  rw [Bool.and_eq_true] at h'
  obtain ⟨hv, h⟩ := h'
  have hv := beq_iff_eq.mp hv
  unfold gloOk at h
  unfold mGlo
  split at h
  · rename_i y d hk
    have := beq_iff_eq.mp h; subst this
    obtain ⟨h1, h2, h3, u, v, h4, h5, h6⟩ := Q.gl _ _ _ hk hv
    exact p_glob h1 h4 h5 h6 h2
  · rename_i y d hk
    have := beq_iff_eq.mp h; subst this
    obtain ⟨h1, h2, h3, h4⟩ := Q.gl _ _ _ hk hv
    exact p_glob h1 h4.1 (v := .ref d) rfl (fun _ => .ref _) h2
  · rename_i y d hk
    have := beq_iff_eq.mp h; subst this
    obtain ⟨h1, h2, h3, h4⟩ := Q.gl _ _ _ hk hv
    exact p_bltn h1 h4.1 h4.2 h3 h2
  · exact absurd h (by decide)
theorem call_ok (Q : SIok X S ex) {k : Nat} {es : CEs} {x : Str} {p pos : Pos} {xs : List Expr} (ha : PA3 X xs (mA S.gl X.K ex es)) (hk : kEs S es xs = true) (hv : S.gv[k]? = some true) (h : calOk S k x (!xs.isEmpty) = true) : PE3 X (.Call (.Name x p) xs [] pos) (mCal S.gl X.K ex k (mA S.gl X.K ex es)) := by
  unfold calOk at h
  unfold mCal
  have one : ∀ {e : Expr} {r : List Expr}, xs = e :: r → isStar e = false ∧ (backTo pos (starEach r X.env)).any (·.1) = false := fun {e r} z => by
    subst z
    cases es with
    | nil => exact absurd (show false = true from hk) (by decide)
    | cons c cr =>
      have h' : (!isStar e && kE S c e && kEs S cr r) = true := hk
      simp only [Bool.and_eq_true, Bool.not_eq_true'] at h'
      exact ⟨h'.1.1, kEs_star h'.2⟩
  split at h
  · rename_i y sp n qt hg
    rw [Bool.and_eq_true] at h
    obtain ⟨h, hc⟩ := h
    have := beq_iff_eq.mp h; subst this
    obtain ⟨h1, h2, h3, h4⟩ := Q.gl _ _ _ hg hv
    obtain ⟨j, f, fd, ps, F, hr, hm, hkp, hb⟩ := h4 (Bool.or_eq_true _ _ |>.mp hc)
    cases xs with
    | nil =>
      cases es with
      | nil => exact p_callX0 F hr h1 hm hkp hb Q.cat h2
      | cons _ _ => exact absurd (show false = true from hk) (by decide)
    | cons e r => exact p_callX F hr h1 hm hkp hb Q.cat ha h2 (star_ns (one rfl).1) (one rfl).2
  · rename_i y a hg
    have := beq_iff_eq.mp h; subst this
    obtain ⟨h1, h2, h3, h4, h5⟩ := Q.gl _ _ _ hg hv
    cases xs with
    | nil =>
      cases es with
      | nil => exact p_exc0 PySem.F.excBase_ValueError (by decide) PySem.F.excBase_ValueError h1 h4 h5 h2
      | cons _ _ => exact absurd (show false = true from hk) (by decide)
    | cons e r => exact p_exc PySem.F.excBase_ValueError (by decide) PySem.F.excBase_ValueError h1 h4 h5 ha h2 (star_ns (one rfl).1) (one rfl).2
  · rename_i y b hg
    rw [Bool.and_eq_true, Bool.and_eq_true] at h
    obtain ⟨⟨h, hc⟩, hcm⟩ := h
    have := beq_iff_eq.mp h; subst this
    cases xs with
    | nil => exact absurd (show false = true from hc) (by decide)
    | cons e r => exact bf_ok Q hg hv hcm ha (one rfl).1 (one rfl).2
  · rename_i y n hg
    rw [Bool.and_eq_true] at h
    obtain ⟨h, hc⟩ := h
    have := beq_iff_eq.mp h; subst this
    obtain ⟨h1, h2, h3, h4⟩ := Q.gl _ _ _ hg hv
    cases xs with
    | nil => exact absurd (show false = true from hc) (by decide)
    | cons e r => exact p_callTy bt_ok h1 h4.1 h4.2 ha h3 h2 (star_ns (one rfl).1) (one rfl).2
  · rename_i y C sp dd hg
    rw [Bool.and_eq_true] at h
    obtain ⟨h, hc⟩ := h
    have := beq_iff_eq.mp h; subst this
    obtain ⟨h1, h2, h3, h4⟩ := Q.gl _ _ _ hg hv
    obtain ⟨kk, f, fd, ps, ds, dvs, q1, q2, q3, q4, q5, q6, q7⟩ := h4 hc
    cases xs with
    | nil =>
      cases es with
      | nil => exact p_makeX0 q1 q2 q3 h1 q4 q5 q6 q7 Q.cat h2
      | cons _ _ => exact absurd (show false = true from hk) (by decide)
    | cons e r => exact p_makeX q1 q2 q3 h1 q4 q5 q6 q7 Q.cat ha h2 (star_ns (one rfl).1) (one rfl).2
  · exact absurd h (by decide)
/-! ### a comprehension's block -/
theorem lookup_relabel {names : List (Str × NameKind)} {env : Env} {y : Str} {k : NameKind} (h : names.lookup y = some k) :
    (names.map fun (n, k) => if (k == .free && env.scope.kind == .function && env.kindOf n == some .cell) then (n, .cell) else (n, k)).lookup y = some k ∨
    (k = .free ∧ (names.map fun (n, k) => if (k == .free && env.scope.kind == .function && env.kindOf n == some .cell) then (n, .cell) else (n, k)).lookup y = some .cell) := by
  induction names with
  | nil => simp at h
  | cons p r ih =>
    obtain ⟨n, kd⟩ := p
    rw [List.lookup_cons] at h
    show List.lookup y ((if (kd == .free && env.scope.kind == .function && env.kindOf n == some .cell) = true then (n, NameKind.cell) else (n, kd)) :: _) = some k ∨ (k = .free ∧ List.lookup y ((if (kd == .free && env.scope.kind == .function && env.kindOf n == some .cell) = true then (n, NameKind.cell) else (n, kd)) :: _) = some .cell)
    cases hx : y == n with
    | true =>
      rw [hx] at h
      have hkd : kd = k := by simpa using h
      subst hkd
      by_cases hc : (kd == .free && env.scope.kind == .function && env.kindOf n == some .cell) = true
      · rw [if_pos hc, List.lookup_cons, hx]
        refine .inr ⟨?_, rfl⟩
        simp only [Bool.and_eq_true, beq_iff_eq] at hc
        exact hc.1.1
      · rw [if_neg hc, List.lookup_cons, hx]
        exact .inl rfl
    | false =>
      rw [hx] at h
      have z := ih h
      by_cases hc : (kd == .free && env.scope.kind == .function && env.kindOf n == some .cell) = true
      · rw [if_pos hc, List.lookup_cons, hx]
        exact z
      · rw [if_neg hc, List.lookup_cons, hx]
        exact z
theorem nodupB_of : ∀ {xs : List Str}, nodupB xs = true → xs.Nodup
  | [], _ => List.nodup_nil
  | x :: r, h => by
    have h' : (!r.contains x && nodupB r) = true := h
    rw [Bool.and_eq_true] at h'
    exact List.nodup_cons.mpr ⟨by simpa using h'.1, nodupB_of h'.2⟩
theorem cmpOk_parts {xs : List Str} {scope : Scope} {fl gv : List Bool} (h : cmpOk S xs scope fl gv = true) :
    scope.kind = .function ∧ (∀ y ∈ scope.names, y.2 ≠ .cell ∧ (y.2 = .local → scope.names.lookup y.1 = some .local) ∧ (y.2 = .free → ceIn S y.1 = true)) ∧
    (∀ x ∈ xs, scope.names.lookup x = some .local ∧ x ∉ S.N ∧ (x == ("__debug__" : Str)) = false ∧ (x == ("__classdict__" : Str)) = false) ∧ xs.Nodup ∧ (∀ y ∈ S.N, scope.names.lookup y ≠ some .local) ∧
    (∀ (i : Nat) (y : Str), S.N[i]? = some y → fl[i]? = some true → S.fl[i]? = some true ∧ scope.names.lookup y = some .free) ∧
    ∀ (k : Nat) (y : Str) (g : GT), S.gl[k]? = some (y, g) → gv[k]? = some true → scope.names.lookup y = some .globalImplicit := by
  unfold cmpOk at h
  simp only [Bool.and_eq_true] at h
  obtain ⟨⟨⟨⟨⟨⟨h1, h2⟩, h3⟩, h4⟩, h5⟩, h8⟩, h9⟩ := h
  refine ⟨beq_iff_eq.mp h1, fun y hy => ?_, fun x hx => ?_, nodupB_of h4, fun y hy => ?_, fun i y e1 e2 => ?_, fun k y g e1 e2 => ?_⟩
  · have z := List.all_eq_true.mp h2 y hy
    simp only [Bool.and_eq_true, bne_iff_ne, ne_eq, Bool.or_eq_true, beq_iff_eq] at z
    obtain ⟨⟨z1, z2⟩, z3⟩ := z
    exact ⟨z1, fun e => z2.resolve_left fun n => n e, fun e => z3.resolve_left fun n => n e⟩
  · have z := List.all_eq_true.mp h3 x hx
    simp only [Bool.and_eq_true] at z
    obtain ⟨⟨⟨z1, z2⟩, z3⟩, z4⟩ := z
    exact ⟨beq_iff_eq.mp z1, by simpa using z2, by simpa using z3, by simpa using z4⟩
  · have z := List.all_eq_true.mp h5 y hy
    simpa using z
  · have z := List.all_eq_true.mp h8 i (List.mem_range.mpr (List.getElem?_eq_some_iff.mp e1).1)
    rw [e2, e1] at z
    simpa using z
  · have z := List.all_eq_true.mp h9 k (List.mem_range.mpr (List.getElem?_eq_some_iff.mp e1).1)
    rw [e2, e1] at z
    simpa using z
theorem compOk_of (Q : SIok X S ex) {xs : List Str} {scope : Scope} {fl gv : List Bool} (h : cmpOk S xs scope fl gv = true) : CompOk X xs scope := by
  obtain ⟨h1, h2, h3, h4, h5, h8, h9⟩ := cmpOk_parts h
  refine ⟨h1, fun y hy => (h2 y hy).1, fun y hy => (h2 y hy).2.1, fun x hx => (h3 x hx).1, fun y hy e => ?_, fun x hx => by rw [Q.N]; exact (h3 x hx).2.1, h4, by rw [Q.N]; exact h5⟩
  have z := (h2 y hy).2.2 e
  unfold ceIn at z
  obtain ⟨i, _, z⟩ := List.any_eq_true.mp z
  rw [Bool.and_eq_true] at z
  exact Q.ce i y.1 (beq_iff_eq.mp z.1) (beq_iff_eq.mp z.2)
theorem cat_no {X : Cx} : Cat X NoX := ⟨fun _ _ _ _ _ _ _ _ _ ⟨_, _, _, _, _, _, _, _, _, _, _, _, z⟩ => by obtain ⟨_, _, _, _, z⟩ := z; exact z.elim⟩
theorem app_cases {α : Type} {xs ys : List α} {i : Nat} {y : α} (h : (xs ++ ys)[i]? = some y) : (i < xs.length ∧ y ∈ xs) ∨ ∃ j, i = xs.length + j ∧ ys[j]? = some y := by
  by_cases c : i < xs.length
  · rw [List.getElem?_append_left c] at h
    exact .inl ⟨c, List.mem_of_getElem? h⟩
  · rw [List.getElem?_append_right (by omega)] at h
    exact .inr ⟨i - xs.length, by omega, h⟩
theorem app_map {α β : Type} {xs : List α} {f : α → β} {ys : List β} {j : Nat} : (xs.map f ++ ys)[xs.length + j]? = ys[j]? := by
  rw [List.getElem?_append_right (by simp)]
  congr 1
  simp
theorem SIok.cmp (Q : SIok X S ex) {xs : List Str} {scope : Scope} {fl gv : List Bool} (h : cmpOk S xs scope fl gv = true) (C : Addr) (s : Shared) (H : Hp) (fp : List Addr) (pins : List (Addr × Obj)) : SIok (cmpX X xs scope C s H fp pins) (S.cmp xs fl gv) NoX := by
  obtain ⟨h1, h2, h3, h4, h5, h8, h9⟩ := cmpOk_parts h
  refine ⟨by show xs ++ X.N = xs ++ S.N; rw [Q.N], cmp_nd (N := X.N) (compOk_of Q h) Q.nd, fun i y e1 e2 => ?_, fun i y e1 e2 => ?_, fun k y g e1 => ?_, Q.hu, Q.cm, cat_no⟩
  · rcases app_cases e1 with ⟨_, m⟩ | ⟨j, rfl, e1'⟩
    · obtain ⟨a1, a2, a3, a4⟩ := h3 y m
      exact ⟨.inl (lookup_relabel_local a1), a3, a4⟩
    · have e2' : fl[j]? = some true := app_map.symm.trans e2
      obtain ⟨a1, a2⟩ := h8 j y e1' e2'
      obtain ⟨_, b2, b3⟩ := Q.vis j y e1' a1
      refine ⟨?_, b2, b3⟩
      rcases lookup_relabel (env := X.env) a2 with z | ⟨_, z⟩
      · exact .inr (.inr z)
      · exact .inr (.inl z)
  · rcases app_cases e1 with ⟨c, m⟩ | ⟨j, rfl, e1'⟩
    · have e2' : (xs.map (fun _ => false) ++ fl)[i]? = some true := e2
      rw [List.getElem?_append_left (by simpa using c)] at e2'
      simp at e2'
    · have e2' : fl[j]? = some true := app_map.symm.trans e2
      obtain ⟨a1, a2⟩ := h8 j y e1' e2'
      rcases lookup_relabel (env := X.env) a2 with z | ⟨_, z⟩
      · exact .inr z
      · exact .inl z
  · obtain ⟨b1, b2, b3, b4⟩ := Q.gm k y g e1
    refine ⟨fun e2 => ?_, b2, b3, ?_⟩
    · rcases lookup_relabel (env := X.env) (h9 k y g e1 e2) with z | ⟨z, _⟩
      · exact z
      · cases z
    · cases g <;> exact b4
theorem range_ok (Q : SIok X S ex) (h : rangeIn S = true) : Gl X "range" ∧ X.mg "range" = none := by
  unfold rangeIn at h
  obtain ⟨k, _, h⟩ := List.any_eq_true.mp h
  rw [Bool.and_eq_true] at h
  obtain ⟨hv, h⟩ := h
  split at h
  · rename_i y n e
    rw [Bool.and_eq_true] at h
    have := beq_iff_eq.mp h.1
    subst this
    obtain ⟨g1, g2, g3, g4⟩ := Q.gl _ _ _ e (beq_iff_eq.mp hv)
    exact ⟨g1, g4.1⟩
  · exact absurd h (by decide)
theorem revAt_ok (Q : SIok X S ex) {k : Nat} {x : Str} (h : revAt S k x = true) (hv : S.gv[k]? = some true) : Gl X x ∧ X.mg x = none ∧ bootBuiltins x = some (.type "reversed") ∧ x ≠ "__name__" ∧ (x == ("__debug__" : Str)) = false := by
  unfold revAt at h
  split at h
  · rename_i y b e
    rw [Bool.and_eq_true] at h
    have e1 := beq_iff_eq.mp h.1
    have e2 := beq_iff_eq.mp h.2
    subst e1; subst e2
    obtain ⟨g1, g2, g3, g4⟩ := Q.gl _ _ _ e hv
    exact ⟨g1, g4.1, g4.2, g3, g2⟩
  · exact absurd h (by decide)
theorem callOne_of {w : Expr} {x : Str} {z : Expr} (h : callOne w = some (x, z)) : ∃ p q, w = .Call (.Name x p) [z] [] q := by
  unfold callOne at h
  split at h
  · cases h; exact ⟨_, _, rfl⟩
  · cases h
theorem fs_ok {e : Expr} {env : Env} (h : isSet e = false) : ∀ x, foldedSetIterable e env x = pure x := by
  cases e <;> first | (intro _; rfl) | exact absurd (show true = false from h) (by decide)
end
end L4
set_option Elab.async false
set_option linter.all false
set_option maxRecDepth 100000
set_option maxHeartbeats 4000000
namespace L4
open PySem PySem.Spec PyProof.Rows L2
theorem fls {P : Prop} (h : false = true) : P := absurd h (by decide)
mutual
theorem okE {X : Cx} {S : SI} {ex : St3 → EXK} (Q : SIok X S ex) : ∀ (c : CE) (e : Expr), kE S c e = true → PE3 X e (mE S.gl X.K ex c)
  | .var i, e, h => by
    cases e with
    | Name x p =>
      have h' : (S.N[i]? == some x && S.fl[i]? == some true) = true := h
      rw [Bool.and_eq_true] at h'
      have e1 := beq_iff_eq.mp h'.1
      obtain ⟨v1, v2, v3⟩ := Q.vis i x e1 (beq_iff_eq.mp h'.2)
      exact p_var i (by rw [Q.N]; exact e1) v1 v2 v3
    | _ => exact fls h
  | .con d, e, h => by
    cases e with
    | Constant c j p => exact con_ok h
    | _ => exact fls h
  | .glo k, e, h => by
    cases e with
    | Name x p => exact glo_ok Q h
    | _ => exact fls h
  | .neg a, e, h => by
    cases e with
    | UnaryOp op x p =>
      cases op with
      | USub => exact p_neg (okE Q a x h)
      | _ => exact fls h
    | _ => exact fls h
  | .notv a, e, h => by
    cases e with
    | UnaryOp op x p =>
      cases op with
      | Not => exact p_not (okE Q a x h)
      | _ => exact fls h
    | _ => exact fls h
  | .bin o a b, e, h => by
    cases e with
    | BinOp x o' y p =>
      have h' : (o == o' && kE S a x && kE S b y) = true := h
      simp only [Bool.and_eq_true] at h'
      have := beq_iff_eq.mp h'.1.1; subst this
      exact p_op rBin_ok (okE Q a x h'.1.2) (okE Q b y h'.2)
    | _ => exact fls h
  | .cmp o a b, e, h => by
    cases e with
    | Compare x ops ys p =>
      match ops, ys, h with
      | [o'], [y], h =>
        have h' : (o == o' && !behindInMarks o' y && kE S a x && kE S b y) = true := h
        simp only [Bool.and_eq_true, Bool.not_eq_true'] at h'
        have := beq_iff_eq.mp h'.1.1.1; subst this
        exact p_cmp (rCmp_ok Q.hu) (okE Q a x h'.1.2) (okE Q b y h'.2) h'.1.1.2
      | [], _, h => exact fls h
      | _ :: _ :: _, _, h => exact fls h
      | [_], [], h => exact fls h
      | [_], _ :: _ :: _, h => exact fls h
    | _ => exact fls h
  | .chain o o' a b c, e, h => by
    cases e with
    | Compare x ops ys p =>
      match ops, ys, h with
      | [p1, p2], [y, z], h =>
        have h' : (o == p1 && o' == p2 && !lastMarks [p1, p2] [y, z] && kE S a x && kE S b y && kE S c z) = true := h
        simp only [Bool.and_eq_true, Bool.not_eq_true'] at h'
        have e1 := beq_iff_eq.mp h'.1.1.1.1.1
        have e2 := beq_iff_eq.mp h'.1.1.1.1.2
        subst e1; subst e2
        exact p_chain (rCmp_ok Q.hu) (rCmp_ok Q.hu) (okE Q a x h'.1.1.2) (okE Q b y h'.1.2) (okE Q c z h'.2) h'.1.1.1.2
      | [], _, h => exact fls h
      | [_], _, h => exact fls h
      | _ :: _ :: _ :: _, _, h => exact fls h
      | [_, _], [], h => exact fls h
      | [_, _], [_], h => exact fls h
      | [_, _], _ :: _ :: _ :: _, h => exact fls h
    | _ => exact fls h
  | .andv es, e, h => by
    cases e with
    | BoolOp op xs p =>
      cases op with
      | And => exact okAnd Q es xs p h
      | Or => exact fls h
    | _ => exact fls h
  | .tup es, e, h => by
    cases e with
    | Tuple xs j p => exact p_tup (okA Q es xs h)
    | _ => exact fls h
  | .lst es, e, h => by
    cases e with
    | List xs p => exact p_lst (okA Q es xs h)
    | _ => exact fls h
  | .ix a b, e, h => by
    cases e with
    | Subscript x y p =>
      have h' : (!isSlice y && kE S a x && kE S b y) = true := h
      simp only [Bool.and_eq_true, Bool.not_eq_true'] at h'
      exact p_ix (okE Q a x h'.1.2) (okE Q b y h'.2) (ix_ok h'.1.1)
    | _ => exact fls h
  | .sl a lo hi, e, h => by
    cases e with
    | Subscript x y p =>
      cases y with
      | Slice l u st q =>
        cases st with
        | none =>
          have h' : (kE S a x && kO S lo l && kO S hi u) = true := h
          simp only [Bool.and_eq_true] at h'
          exact p_slice (okE Q a x h'.1.1) (okO Q lo l h'.1.2) (okO Q hi u h'.2)
        | some _ => exact fls h
      | _ => exact fls h
    | _ => exact fls h
  | .call k es, e, h => by
    cases e with
    | Call f xs kws p =>
      cases f with
      | Name x q =>
        cases kws with
        | nil =>
          have h' : (kEs S es xs && S.gv[k]? == some true && calOk S k x (!xs.isEmpty)) = true := h
          simp only [Bool.and_eq_true] at h'
          exact call_ok Q (okA Q es xs h'.1.1) h'.1.1 (beq_iff_eq.mp h'.1.2) h'.2
        | cons _ _ => exact fls h
      | _ => exact fls h
    | _ => exact fls h
  | .meth m o .nil, e, h => by
    cases e with
    | Call f xs kws p =>
      cases f with
      | Attribute y n ap =>
        cases kws with
        | nil =>
          have h' : (n == mkN m && notSuper y && ap.endLine == p.line && decide (xs.length < 30) && kE S o y && kEs S .nil xs) = true := h
          simp only [Bool.and_eq_true] at h'
          obtain ⟨⟨⟨⟨⟨h1, h2⟩, h3⟩, h4⟩, h5⟩, h6⟩ := h'
          have := beq_iff_eq.mp h1; subst this
          cases xs with
          | nil => exact meth_ok (okE Q o y h5) h2 h3
          | cons _ _ => exact fls h6
        | cons _ _ => exact fls h
      | _ => exact fls h
    | _ => exact fls h
  | .meth m o (.cons c r), e, h => by
    cases e with
    | Call f xs kws p =>
      cases f with
      | Attribute y n ap =>
        cases kws with
        | nil =>
          have h' : (n == mkN m && notSuper y && ap.endLine == p.line && decide (xs.length < 30) && kE S o y && kEs S (.cons c r) xs) = true := h
          simp only [Bool.and_eq_true] at h'
          obtain ⟨⟨⟨⟨⟨h1, h2⟩, h3⟩, h4⟩, h5⟩, h6⟩ := h'
          have := beq_iff_eq.mp h1; subst this
          cases xs with
          | nil => exact fls h6
          | cons x xs =>
            have h7 : (!isStar x && kE S c x && kEs S r xs) = true := h6
            simp only [Bool.and_eq_true, Bool.not_eq_true'] at h7
            exact meth_ok1 (okE Q o y h5) (a_cons (okE Q c x h7.1.2) (okA Q r xs h7.2) (star_ns h7.1.1)) h2 h3 h6 (of_decide_eq_true h4)
        | cons _ _ => exact fls h
      | _ => exact fls h
    | _ => exact fls h
  | .comp fl gv ci cc c, e, h => by
    cases e with
    | ListComp elt gens scope p =>
      cases gens with
      | nil => exact fls h
      | cons g gr =>
        cases gr with
        | cons _ _ => obtain ⟨tg, it, ifs, a⟩ := g; cases tg <;> exact fls h
        | nil =>
          obtain ⟨tg, it, ifs, a⟩ := g
          cases tg with
          | Name x px =>
            have h' : (a == 0 && cmpOk S [x] scope fl gv && !isSet it && kI S false ci it && kC (S.cmp [x] fl gv) cc ifs && kE (S.cmp [x] fl gv) c elt) = true := h
            simp only [Bool.and_eq_true, Bool.not_eq_true'] at h'
            obtain ⟨⟨⟨⟨⟨h2, h3⟩, h4⟩, h5⟩, h6⟩, h7⟩ := h'
            have := beq_iff_eq.mp h2; subst this
            exact p_compG (compOk_of Q h3) (fun C s H fp pins σ => tg_one (compOk_of Q h3) Q.nd) oneV_len (okI (tt := false) Q (fun z => nomatch z) ci it h5) (fun C s H fp pins => okC (Q.cmp h3 C s H fp pins) cc ifs h6) (fun C s H fp pins => okE (Q.cmp h3 C s H fp pins) c elt h7) (fs_ok h4)
          | _ => exact fls h
    | _ => exact fls h
  | .nev, e, h => bad_ok
  | .jrev k c d, e, h => by
    cases e with
    | Call f as ks p =>
      cases f with
      | Attribute y n ap =>
        match as, ks, h with
        | [], _, h => exact fls h
        | _ :: _ :: _, _, h => exact fls h
        | [_], _ :: _, h => exact fls h
        | [w], [], h =>
          have h' : (n == ("join" : Str) && S.calm && S.gv[k]? == some true && notSuper y && ap.endLine == p.line && kE S c y && (match callOne w with
            | some (x, z) => revAt S k x && !isStar z && kE S d z
            | none => false)) = true := h
          simp only [Bool.and_eq_true] at h'
          obtain ⟨⟨⟨⟨⟨⟨h1, h2⟩, h3⟩, h4⟩, h5⟩, h6⟩, h7⟩ := h'
          have := beq_iff_eq.mp h1; subst this
          cases q : callOne w with
          | none => rw [q] at h7; exact fls h7
          | some xz =>
            obtain ⟨x, z⟩ := xz
            rw [q] at h7
            simp only [Bool.and_eq_true, Bool.not_eq_true'] at h7
            obtain ⟨⟨h8, h9⟩, h10⟩ := h7
            obtain ⟨pp, qq, rfl⟩ := callOne_of q
            obtain ⟨g1, g2, g3, g4, g5⟩ := revAt_ok Q h8 (beq_iff_eq.mp h3)
            exact p_jrev (Q.cm h2) (okE Q c y h6) (okE Q d z h10) g1 g2 g3 g4 g5 (base_ns h4) rfl h5 (star_ns h9)
      | _ => exact fls h
    | _ => exact fls h
theorem okA {X : Cx} {S : SI} {ex : St3 → EXK} (Q : SIok X S ex) : ∀ (c : CEs) (es : List Expr), kEs S c es = true → PA3 X es (mA S.gl X.K ex c)
  | .nil, es, h => by
    cases es with
    | nil => exact a_nil
    | cons _ _ => exact fls h
  | .cons c r, es, h => by
    cases es with
    | nil => exact fls h
    | cons x xs =>
      have h7 : (!isStar x && kE S c x && kEs S r xs) = true := h
      simp only [Bool.and_eq_true, Bool.not_eq_true'] at h7
      exact a_cons (okE Q c x h7.1.2) (okA Q r xs h7.2) (star_ns h7.1.1)
theorem okAnd {X : Cx} {S : SI} {ex : St3 → EXK} (Q : SIok X S ex) : ∀ (c : CEs) (es : List Expr) (p : Pos), kEs S c es = true → PE3 X (.BoolOp .And es p) (mAnd S.gl X.K ex c)
  | .nil, es, p, h => bad_ok
  | .cons c .nil, es, p, h => by
    match es, h with
    | [], h => exact fls h
    | [x], h =>
      have h7 : (!isStar x && kE S c x && kEs S .nil []) = true := h
      simp only [Bool.and_eq_true, Bool.not_eq_true'] at h7
      exact p_one (okE Q c x h7.1.2)
    | x :: y :: ys, h =>
      have h7 : (!isStar x && kE S c x && kEs S .nil (y :: ys)) = true := h
      simp only [Bool.and_eq_true, Bool.not_eq_true'] at h7
      exact fls h7.2
  | .cons c (.cons c' r), es, p, h => by
    match es, h with
    | [], h => exact fls h
    | [x], h =>
      have h7 : (!isStar x && kE S c x && kEs S (.cons c' r) []) = true := h
      simp only [Bool.and_eq_true, Bool.not_eq_true'] at h7
      exact fls h7.2
    | x :: y :: ys, h =>
      have h7 : (!isStar x && kE S c x && kEs S (.cons c' r) (y :: ys)) = true := h
      simp only [Bool.and_eq_true, Bool.not_eq_true'] at h7
      exact p_and (okE Q c x h7.1.2) (okAnd Q (.cons c' r) (y :: ys) p h7.2)
theorem okOr {X : Cx} {S : SI} {ex : St3 → EXK} (Q : SIok X S ex) : ∀ (c : CEs) (es : List Expr) (p : Pos), kEs S c es = true → PE3 X (.BoolOp .Or es p) (mOr S.gl X.K ex c)
  | .nil, es, p, h => bad_ok
  | .cons c .nil, es, p, h => by
    match es, h with
    | [], h => exact fls h
    | [x], h =>
      have h7 : (!isStar x && kE S c x && kEs S .nil []) = true := h
      simp only [Bool.and_eq_true, Bool.not_eq_true'] at h7
      exact p_one (okE Q c x h7.1.2)
    | x :: y :: ys, h =>
      have h7 : (!isStar x && kE S c x && kEs S .nil (y :: ys)) = true := h
      simp only [Bool.and_eq_true, Bool.not_eq_true'] at h7
      exact fls h7.2
  | .cons c (.cons c' r), es, p, h => by
    match es, h with
    | [], h => exact fls h
    | [x], h =>
      have h7 : (!isStar x && kE S c x && kEs S (.cons c' r) []) = true := h
      simp only [Bool.and_eq_true, Bool.not_eq_true'] at h7
      exact fls h7.2
    | x :: y :: ys, h =>
      have h7 : (!isStar x && kE S c x && kEs S (.cons c' r) (y :: ys)) = true := h
      simp only [Bool.and_eq_true, Bool.not_eq_true'] at h7
      exact p_or (okE Q c x h7.1.2) (okOr Q (.cons c' r) (y :: ys) p h7.2)
theorem okT {X : Cx} {S : SI} {ex : St3 → EXK} (Q : SIok X S ex) : ∀ (c : CT) (e : Expr), kT S c e = true → PT3 X e (mT S.gl X.K ex c)
  | .cmp o a b, e, h => by
    cases e with
    | Compare x ops ys p =>
      match ops, ys, h with
      | [o'], [y], h =>
        have h' : (o == o' && !behindInMarks o' y && kE S a x && kE S b y) = true := h
        simp only [Bool.and_eq_true, Bool.not_eq_true'] at h'
        have := beq_iff_eq.mp h'.1.1.1; subst this
        exact q_cmp (rCmp_ok Q.hu) (okE Q a x h'.1.2) (okE Q b y h'.2) h'.1.1.2
      | [], _, h => exact fls h
      | _ :: _ :: _, _, h => exact fls h
      | [_], [], h => exact fls h
      | [_], _ :: _ :: _, h => exact fls h
    | _ => exact fls h
  | .chain o o' a b c, e, h => by
    cases e with
    | Compare x ops ys p =>
      match ops, ys, h with
      | [p1, p2], [y, z], h =>
        have h' : (o == p1 && o' == p2 && !lastMarks [p1, p2] [y, z] && kE S a x && kE S b y && kE S c z) = true := h
        simp only [Bool.and_eq_true, Bool.not_eq_true'] at h'
        have e1 := beq_iff_eq.mp h'.1.1.1.1.1
        have e2 := beq_iff_eq.mp h'.1.1.1.1.2
        subst e1; subst e2
        exact q_chain (rCmp_ok Q.hu) (rCmp_ok Q.hu) (okE Q a x h'.1.1.2) (okE Q b y h'.1.2) (okE Q c z h'.2) h'.1.1.1.2
      | [], _, h => exact fls h
      | [_], _, h => exact fls h
      | _ :: _ :: _ :: _, _, h => exact fls h
      | [_, _], [], h => exact fls h
      | [_, _], [_], h => exact fls h
      | [_, _], _ :: _ :: _ :: _, h => exact fls h
    | _ => exact fls h
  | .not t, e, h => by
    cases e with
    | UnaryOp op x p =>
      cases op with
      | Not => exact q_not (okT Q t x h)
      | _ => exact fls h
    | _ => exact fls h
  | .or ts, e, h => by
    cases e with
    | BoolOp op xs p =>
      cases op with
      | Or => exact PW.pt (okTOr Q ts xs p h)
      | And => exact fls h
    | _ => exact fls h
  | .val c, e, h => by
    have h' : (plainT e && kE S c e) = true := h
    rw [Bool.and_eq_true] at h'
    exact q_val (okE Q c e h'.2) (val_ok h'.1)
theorem okTAnd {X : Cx} {S : SI} {ex : St3 → EXK} (Q : SIok X S ex) : ∀ (c : CTs) (es : List Expr) (p : Pos), kTs S c es = true → PW3 X (.BoolOp .And es p) (mTAnd S.gl X.K ex c)
  | .nil, es, p, h => fun _ _ _ _ _ _ _ ⟨_, _, _, _, _, z, _⟩ => z.elim
  | .cons c .nil, es, p, h => by
    match es, h with
    | [], h => exact fls h
    | [x], h =>
      have h7 : (kT S c x && kTs S .nil []) = true := h
      simp only [Bool.and_eq_true] at h7
      exact q_and1 (okT Q c x h7.1)
    | x :: y :: ys, h =>
      have h7 : (kT S c x && kTs S .nil (y :: ys)) = true := h
      simp only [Bool.and_eq_true] at h7
      exact fls h7.2
  | .cons c (.cons c' r), es, p, h => by
    match es, h with
    | [], h => exact fls h
    | [x], h =>
      have h7 : (kT S c x && kTs S (.cons c' r) []) = true := h
      simp only [Bool.and_eq_true] at h7
      exact fls h7.2
    | x :: y :: ys, h =>
      have h7 : (kT S c x && kTs S (.cons c' r) (y :: ys)) = true := h
      simp only [Bool.and_eq_true] at h7
      exact q_and (okT Q c x h7.1) (okTAnd Q (.cons c' r) (y :: ys) p h7.2)
theorem okTOr {X : Cx} {S : SI} {ex : St3 → EXK} (Q : SIok X S ex) : ∀ (c : CTs) (es : List Expr) (p : Pos), kTs S c es = true → PW3 X (.BoolOp .Or es p) (mTOr S.gl X.K ex c)
  | .nil, es, p, h => fun _ _ _ _ _ _ _ ⟨_, _, _, _, _, z, _⟩ => z.elim
  | .cons c .nil, es, p, h => by
    match es, h with
    | [], h => exact fls h
    | [x], h =>
      have h7 : (kT S c x && kTs S .nil []) = true := h
      simp only [Bool.and_eq_true] at h7
      exact q_or1 (okT Q c x h7.1)
    | x :: y :: ys, h =>
      have h7 : (kT S c x && kTs S .nil (y :: ys)) = true := h
      simp only [Bool.and_eq_true] at h7
      exact fls h7.2
  | .cons c (.cons c' r), es, p, h => by
    match es, h with
    | [], h => exact fls h
    | [x], h =>
      have h7 : (kT S c x && kTs S (.cons c' r) []) = true := h
      simp only [Bool.and_eq_true] at h7
      exact fls h7.2
    | x :: y :: ys, h =>
      have h7 : (kT S c x && kTs S (.cons c' r) (y :: ys)) = true := h
      simp only [Bool.and_eq_true] at h7
      exact q_or (okT Q c x h7.1) (okTOr Q (.cons c' r) (y :: ys) p h7.2)
theorem okO {X : Cx} {S : SI} {ex : St3 → EXK} (Q : SIok X S ex) : ∀ (c : CO) (e : Option Expr), kO S c e = true → PO3 X e (mO S.gl X.K ex c)
  | .none, e, h => by
    cases e with
    | none => exact o_none
    | some _ => exact fls h
  | .some c, e, h => by
    cases e with
    | none => exact fls h
    | some x => exact o_some (okE Q c x h)
theorem okI {X : Cx} {S : SI} {ex : St3 → EXK} (Q : SIok X S ex) {tg : Expr} {tt : Bool} (htt : tt = true → X.calm = true ∧ ∃ es kt pt, tg = .Tuple es kt pt) : ∀ (c : CI) (e : Expr), kI S tt c e = true → PI3 X tg e (mI S.gl X.K ex c)
  | .any c, e, h => i_any (okE Q c e h)
  | .rng1 c, e, h => by
    cases e with
    | Call f as ks p =>
      cases f with
      | Name r q =>
        cases as with
        | nil => exact fls h
        | cons y yr =>
          cases yr with
          | cons _ _ => exact fls h
          | nil =>
            cases ks with
            | cons _ _ => exact fls h
            | nil =>
              have h' : (r == ("range" : Str) && rangeIn S && !isStar y && kE S c y) = true := h
              simp only [Bool.and_eq_true, Bool.not_eq_true'] at h'
              obtain ⟨⟨⟨h1, h2⟩, h3⟩, h4⟩ := h'
              have := beq_iff_eq.mp h1; subst this
              obtain ⟨g1, g2⟩ := range_ok Q h2
              exact i_rng1 g1 g2 (a_cons (okE Q c y h4) a_nil (star_ns h3)) (star_ns h3)
      | _ => exact fls h
    | _ => exact fls h
theorem okC {X : Cx} {S : SI} (Q : SIok X S NoX) : ∀ (c : CC) (es : List Expr), kC S c es = true → PIfs X es (mC S.gl X.K c)
  | .none, es, h => by
    cases es with
    | nil => exact ifs_nil
    | cons _ _ => exact fls h
  | .some t, es, h => by
    match es, h with
    | [], h => exact fls h
    | [x], h => exact ifs_one (okT Q t x h)
    | _ :: _ :: _, h => exact fls h
end
end L4
set_option Elab.async false
set_option linter.all false
set_option maxRecDepth 100000
set_option maxHeartbeats 4000000
namespace L4
open PySem PySem.Spec PyProof.Rows L2
inductive CTg where
  | nm (i : Nat) | tup (is : List Nat)
mutual
inductive CS where
  | ret (e : CE) | expr (e : CE) | ifs (t : CT) (a b : CB) | set (i : Nat) (e : CE)
  | raise (k : Nat) (e : CE) (es : CEs) | pass
  | forG (ci : CI) (tg : CTg) (b : CB)
  | whil (t : CT) (b : CB) | forT (i : Nat) (tg : CTg) (b : CB)
inductive CB where
  | nil | cons (s : CS) (r : CB)
end
def badS3 : TS3 := fun _ _ _ => False
abbrev SI.han (S : SI) : SI := { S with calm := false }
abbrev SI.hid (S : SI) (i : Nat) : SI := { S with N := S.N.set i ("-" : Str), fl := S.fl.set i false, lc := S.lc.set i false, ce := S.ce.set i false }
def mIS (T : List (Str × GT)) (K : Fg) (ex : St3 → EXK) : CI → TI3
  | .any e => tiS3 (mE T K ex e)
  | .rng1 e => tiRng1 (tCons3 (mE T K ex e) tNil3)
def mG : CTg → TG3
  | .nm i => gName3 i
  | .tup is => gTup3 is
def augF : Bool → Int → Int → Int
  | true => fun a b => a - b
  | false => fun a b => a + b
def mRai (T : List (Str × GT)) (ex : St3 → EXK) (k : Nat) (t : TA3) : TS3 := match T[k]? with
  | some (_, .cls a) => tRaise3 ex a t
  | _ => badS3
def mTry (T : List (Str × GT)) (K : Fg) (k i : Nat) (tb : (St3 → EXK) → TS3) (th : TS3) : TS3 := match T[k]? with
  | some (_, .cls a) => tTry3 K a i tb th
  | _ => badS3
def mSeF (T : List (Str × GT)) (k : Nat) (to te : TE3) : TS3 := match T[k]? with
  | some (_, .fl C f) => tSetF3 C to te f
  | _ => badS3
def clsOk (S : SI) (k : Nat) (x : Str) : Bool := match S.gl[k]? with
  | some (z, .cls _) => z == x
  | _ => false
mutual
def mS (T : List (Str × GT)) (K : Fg) (ex : St3 → EXK) : CS → TS3
  | .ret e => tRet3 (mE T K ex e)
  | .expr e => tDrop3 (mE T K ex e)
  | .ifs t a b => tIfS3 (mT T K ex t) (mB T K ex a) (mB T K ex b)
  | .set i e => tSet3 i (mE T K ex e)
  | .raise k e es => mRai T ex k (tCons3 (mE T K ex e) (mA T K ex es))
  | .forG ci tg b => tForG3 (mIS T K ex ci) (mG tg) (mB T K ex b)
  | .whil t b => tWhile3 (mT T K ex t) (mB T K ex b)
  | .forT i tg b => tForT3 i (mG tg) (mB T K ex b)
  | .pass => tNext3
def mB (T : List (Str × GT)) (K : Fg) (ex : St3 → EXK) : CB → TS3
  | .nil => tNext3
  | .cons s .nil => mS T K ex s
  | .cons s (.cons s' r) => tSeq3 (mS T K ex s) (mB T K ex (.cons s' r))
end
def isTup : Expr → Bool
  | .Tuple .. => true
  | _ => false
def isComp : Expr → Bool
  | .ListComp .. => true
  | .SetComp .. => true
  | .DictComp .. => true
  | _ => false
def kTg (S : SI) : CTg → Expr → Bool
  | .nm i, .Name x _ => S.N[i]? == some x && S.fl[i]? == some true
  | .tup is, .Tuple es _ _ => kNs S is es
  | _, _ => false
where
  kNs (S : SI) : List Nat → List Expr → Bool
  | [], [] => true
  | i :: is, .Name x _ :: es => S.N[i]? == some x && S.fl[i]? == some true && kNs S is es
  | _, _ => false
def tgOk (S : SI) : CTg → Bool
  | .nm _ => true
  | .tup _ => S.calm
mutual
def kS (S : SI) (lv : Nat) : CS → Stmt → Bool
  | .ret e, .Return (some x) _ => kE S e x
  | .expr e, .Expr x _ => !isComp x && kE S e x
  | .ifs t a b, .If x y z _ => kT S t x && kB S lv a y && kB S lv b z
  | .set i e, .Assign [.Name x _] y _ => S.N[i]? == some x && S.fl[i]? == some true && !isComp y && kE S e y
  | .raise k e es, .Raise (some (.Call (.Name x _) (y :: ys) [] _)) none _ => lv == 0 && S.calm && !isStar y && kE S e y && kEs S es ys && S.gv[k]? == some true && clsOk S k x
  | .forT i tg b, .For tgt (.Name x _) body [] _ => lv != 1 && tgOk S tg && S.N[i]? == some x && S.fl[i]? == some true && kTg S tg tgt && kB S lv b body
  | .whil t b, .While x y [] _ => lv != 1 && kT S t x && kB S lv b y
  | .forG ci tg b, .For tgt iter body [] _ => lv != 1 && tgOk S tg && !isSet iter && kTg S tg tgt && kI S (isTup tgt && S.calm) ci iter && kB S lv b body
  | .pass, .Pass _ => true
  | _, _ => false
def kB (S : SI) (lv : Nat) : CB → List Stmt → Bool
  | .nil, [] => true
  | .cons s r, x :: xs => kS S lv s x && kB S lv r xs
  | _, _ => false
end
structure SSok (X : Cx) (S : SI) (ex : St3 → EXK) (lv : Nat) : Prop where
  si : SIok X S ex
  loc : ∀ (i : Nat) (x : Str), S.N[i]? = some x → S.fl[i]? = some true → Loc X.env.scope x
  lcl : ∀ (i : Nat) (x : Str), S.N[i]? = some x → S.lc[i]? = some true → X.env.kindOf x = some .local
  fn : ∀ x, X.fn x = true
  cls : ∀ (k : Nat) (x : Str) (a : Addr), S.gl[k]? = some (x, .cls a) → S.gv[k]? = some true → PySem.W.excIn X.K a BMv "ValueError.__new__" = true ∧ (PySem.W.clsIn X.K a).isSome = true ∧ PySem.W.typeIn X.K (.ref a) = some (.type "type") ∧ PySem.W.subIn X.K (.ref a) (.type "BaseException") = some true
  l0 : lv ≠ 1 → PassesOwn (model X.prog X.w) X.A X.env X.xe
  rz : lv = 0 → S.calm = true → Thr X ex
  stk : X.stack = X.env :: X.outer
  frm : X.env.frame = some X.env.locals
theorem sw_ok {e : Expr} {t : Option Expr} {n : Nat} {env : Env} (h : isComp e = false) : swapsWith e t n env = pure false := by
  cases e <;> first | rfl | exact absurd (show true = false from h) (by decide)
theorem SSok.tr {X : Cx} {S : SI} {ex : St3 → EXK} {lv : Nat} (Q : SSok X S ex lv) (pn : List (Addr × Obj)) (EX : St3 → EXK) : SSok (tryX X pn EX) S EX 1 where
  si := ⟨Q.si.N, Q.si.nd, Q.si.vis, Q.si.ce, fun k x g h => by
    obtain ⟨h1, h2, h3, h4⟩ := Q.si.gm k x g h
    refine ⟨h1, h2, h3, ?_⟩
    cases g <;> exact h4, Q.si.hu, Q.si.cm, catT pn EX⟩
  loc := Q.loc
  lcl := Q.lcl
  fn := Q.fn
  cls := Q.cls
  l0 := fun z => absurd rfl z
  rz := fun z => absurd z (by decide)
  stk := Q.stk
  frm := Q.frm
theorem SSok.tpq {X : Cx} {S : SI} {ex : St3 → EXK} {lv : Nat} (Q : SSok X S ex lv) (tl : List (Addr × List V)) : SSok (tpX X tl) S ex lv where
  si := ⟨Q.si.N, Q.si.nd, Q.si.vis, Q.si.ce, fun k x g h => by
    obtain ⟨h1, h2, h3, h4⟩ := Q.si.gm k x g h
    refine ⟨h1, h2, h3, ?_⟩
    cases g <;> exact h4, Q.si.hu, Q.si.cm, cat_tp Q.si.cat⟩
  loc := Q.loc
  lcl := Q.lcl
  fn := Q.fn
  cls := Q.cls
  l0 := Q.l0
  rz := fun a b => thr_tp (Q.rz a b)
  stk := Q.stk
  frm := Q.frm
theorem SSok.ha {X : Cx} {S : SI} {ex : St3 → EXK} {lv : Nat} (Q : SSok X S ex lv) (x : Addr) : SSok (hanX X x) S.han NoX 2 where
  si := ⟨Q.si.N, Q.si.nd, Q.si.vis, Q.si.ce, fun k y g h => by
    obtain ⟨h1, h2, h3, h4⟩ := Q.si.gm k y g h
    refine ⟨h1, h2, h3, ?_⟩
    cases g with
    | fn sp n qt =>
      intro z
      have hq : qt = true := z.resolve_right (show ¬ (false = true) by decide)
      subst hq
      obtain ⟨k, f, fd, ps, F, hr, r⟩ := h4 (.inl rfl)
      exact ⟨k, f, fd, ps, F, ⟨(fun z => nomatch z), hr.dp, hr.un⟩, r⟩
    | kl C sp dd => exact fun z => nomatch z
    | me C m sp dd => exact fun z => nomatch z
    | _ => exact h4, Q.si.hu, fun z => absurd (show false = true from z) (by decide), cat_no⟩
  loc := Q.loc
  lcl := Q.lcl
  fn := Q.fn
  cls := Q.cls
  l0 := fun _ => PassesOwn.never
  rz := fun z => absurd z (by decide)
  stk := Q.stk
  frm := Q.frm
theorem clsOk_of {S : SI} {k : Nat} {x : Str} (h : clsOk S k x = true) : ∃ a, S.gl[k]? = some (x, .cls a) := by
  unfold clsOk at h
  split at h
  · rename_i z a hg
    have := beq_iff_eq.mp h; subst this
    exact ⟨a, hg⟩
  · exact fls h
theorem mRai_of {T : List (Str × GT)} {ex : St3 → EXK} {k : Nat} {x : Str} {a : Addr} {t : TA3} (h : T[k]? = some (x, .cls a)) : mRai T ex k t = tRaise3 ex a t := by unfold mRai; rw [h]
theorem raise_ok {X : Cx} {S : SI} {ex : St3 → EXK} {lv : Nat} (Q : SSok X S ex lv) {k : Nat} {e : CE} {es : CEs} {x : Str} {y : Expr} {ys : List Expr} {np cp pos : Pos} (h : kS S lv (.raise k e es) (.Raise (some (.Call (.Name x np) (y :: ys) [] cp)) none pos) = true) :
    PS3 X (.Raise (some (.Call (.Name x np) (y :: ys) [] cp)) none pos) (mRai S.gl ex k (tCons3 (mE S.gl X.K ex e) (mA S.gl X.K ex es))) := by
  have h' : (lv == 0 && S.calm && !isStar y && kE S e y && kEs S es ys && S.gv[k]? == some true && clsOk S k x) = true := h
  simp only [Bool.and_eq_true, Bool.not_eq_true'] at h'
  obtain ⟨⟨⟨⟨⟨⟨h0, hcm⟩, h1⟩, h2⟩, h3⟩, hv⟩, h⟩ := h'
  have hv := beq_iff_eq.mp hv
  obtain ⟨a, hg⟩ := clsOk_of h
  rw [mRai_of hg]
  have l1 := Q.si.cm hcm
  have l2 := Q.rz (beq_iff_eq.mp h0) hcm
  obtain ⟨g1, g2, g3, g4, g5⟩ := Q.si.gl _ _ _ hg hv
  exact s_raise l1 PySem.F.excBase_ValueError (by decide) PySem.F.excBase_ValueError g1 g4 (Q.cls _ _ _ hg hv).1 l2 (a_cons (okE Q.si e y h2) (okA Q.si es ys h3) (star_ns h1)) g2 (star_ns h1) (kEs_star h3)
theorem kNs_ok {X : Cx} {S : SI} {ex : St3 → EXK} {lv : Nat} (Q : SSok X S ex lv) : ∀ {is : List Nat} {es : List Expr}, kTg.kNs S is es = true → Two (NmOk X) es is
  | [], [], _ => .nil
  | [], _ :: _, h => by exact fls h
  | _ :: _, [], h => by exact fls h
  | i :: is, e :: es, h => by
    cases e with
    | Name x p =>
      have h' : (S.N[i]? == some x && S.fl[i]? == some true && kTg.kNs S is es) = true := h
      simp only [Bool.and_eq_true] at h'
      have e1 := beq_iff_eq.mp h'.1.1
      exact .cons ⟨x, p, rfl, by rw [Q.si.N]; exact e1, Q.loc i x e1 (beq_iff_eq.mp h'.1.2), .inl (Q.fn x)⟩ (kNs_ok Q h'.2)
    | _ => exact fls h
theorem tg_ok {X : Cx} {S : SI} {ex : St3 → EXK} {lv : Nat} (Q : SSok X S ex lv) : ∀ {c : CTg} {e : Expr}, tgOk S c = true → kTg S c e = true → PG3 X e (mG c)
  | .nm i, e, _, h => by
    cases e with
    | Name x p =>
      have h' : (S.N[i]? == some x && S.fl[i]? == some true) = true := h
      simp only [Bool.and_eq_true] at h'
      have e1 := beq_iff_eq.mp h'.1
      exact g_name Q.si.nd (by rw [Q.si.N]; exact e1) (Q.loc i x e1 (beq_iff_eq.mp h'.2)) (.inl (Q.fn x))
    | _ => exact fls h
  | .tup is, e, hc, h => by
    cases e with
    | Tuple es k p => exact g_tup Q.si.nd (Q.si.cm hc) (kNs_ok Q h)
    | _ => exact fls h
theorem okIS {X : Cx} {S : SI} {ex : St3 → EXK} (Q : SIok X S ex) {tg : Expr} {tt : Bool} (htt : tt = true → X.calm = true ∧ ∃ es kt pt, tg = .Tuple es kt pt) : ∀ (c : CI) (e : Expr), kI S tt c e = true → PIS X tg e (mIS S.gl X.K ex c)
  | .any c, e, h => is_any (okE Q c e h)
  | .rng1 c, e, h => by
    cases e with
    | Call f as ks p =>
      cases f with
      | Name r q =>
        cases as with
        | nil => exact fls h
        | cons y yr =>
          cases yr with
          | cons _ _ => exact fls h
          | nil =>
            cases ks with
            | cons _ _ => exact fls h
            | nil =>
              have h' : (r == ("range" : Str) && rangeIn S && !isStar y && kE S c y) = true := h
              simp only [Bool.and_eq_true, Bool.not_eq_true'] at h'
              obtain ⟨⟨⟨h1, h2⟩, h3⟩, h4⟩ := h'
              have := beq_iff_eq.mp h1; subst this
              obtain ⟨g1, g2⟩ := range_ok Q h2
              exact is_rng1 g1 g2 (a_cons (okE Q c y h4) a_nil (star_ns h3)) (star_ns h3)
      | _ => exact fls h
    | _ => exact fls h
theorem isTup_of {e : Expr} (h : isTup e = true) : ∃ es kt pt, e = .Tuple es kt pt := by
  cases e <;> first | exact ⟨_, _, _, rfl⟩ | exact fls h
mutual
theorem okS : ∀ (c : CS) {X : Cx} {S : SI} {ex : St3 → EXK} {lv : Nat}, SSok X S ex lv → ∀ (st : Stmt), kS S lv c st = true → PS3 X st (mS S.gl X.K ex c)
  | .ret e, X, S, ex, lv, Q, st, h => by
    cases st with
    | Return v p =>
      cases v with
      | some x => exact s_ret (okE Q.si e x h)
      | none => exact fls h
    | _ => exact fls h
  | .expr e, X, S, ex, lv, Q, st, h => by
    cases st with
    | Expr x p =>
      have h' : (!isComp x && kE S e x) = true := h
      simp only [Bool.and_eq_true, Bool.not_eq_true'] at h'
      exact s_expr (okE Q.si e x h'.2) (sw_ok h'.1)
    | _ => exact fls h
  | .ifs t a b, X, S, ex, lv, Q, st, h => by
    cases st with
    | If x y z p =>
      have h' : (kT S t x && kB S lv a y && kB S lv b z) = true := h
      simp only [Bool.and_eq_true] at h'
      exact s_if (okT Q.si t x h'.1.1) (okB a Q y h'.1.2) (okB b Q z h'.2)
    | _ => exact fls h
  | .set i e, X, S, ex, lv, Q, st, h => by
    cases st with
    | Assign ts y p =>
      cases ts with
      | nil => exact fls h
      | cons t r =>
        cases r with
        | cons _ _ => cases t <;> exact fls h
        | nil =>
          cases t with
          | Name x q =>
            have h' : (S.N[i]? == some x && S.fl[i]? == some true && !isComp y && kE S e y) = true := h
            simp only [Bool.and_eq_true, Bool.not_eq_true'] at h'
            have e1 := beq_iff_eq.mp h'.1.1.1
            exact s_set (i := i) Q.si.nd (by rw [Q.si.N]; exact e1) (Q.loc i x e1 (beq_iff_eq.mp h'.1.1.2)) (okE Q.si e y h'.2) (sw_ok h'.1.2) (.inl (Q.fn x))
          | _ => exact fls h
    | _ => exact fls h
  | .raise k e es, X, S, ex, lv, Q, st, h => by
    cases st with
    | Raise a b p =>
      cases a with
      | none => exact fls h
      | some a =>
        cases a with
        | Call f as ks q =>
          cases f with
          | Name x np =>
            cases as with
            | nil => exact fls h
            | cons y ys =>
              cases ks with
              | cons _ _ => exact fls h
              | nil =>
                cases b with
                | some _ => exact fls h
                | none => exact raise_ok Q h
          | _ => exact fls h
        | _ => exact fls h
    | _ => exact fls h
  | .whil t b, X, S, ex, lv, Q, st, h => by
    cases st with
    | While x y el p =>
      cases el with
      | cons _ _ => exact fls h
      | nil =>
        have h' : (lv != 1 && kT S t x && kB S lv b y) = true := h
        simp only [Bool.and_eq_true] at h'
        exact s_while (Q.l0 (bne_iff_ne.mp h'.1.1)) (okT Q.si t x h'.1.2) (okB b Q y h'.2)
    | _ => exact fls h
  | .forG ci tg b, X, S, ex, lv, Q, st, h => by
    cases st with
    | For tgt it body el p =>
      cases el with
      | cons _ _ => exact fls h
      | nil =>
        have h' : (lv != 1 && tgOk S tg && !isSet it && kTg S tg tgt && kI S (isTup tgt && S.calm) ci it && kB S lv b body) = true := h
        simp only [Bool.and_eq_true, Bool.not_eq_true'] at h'
        obtain ⟨⟨⟨⟨⟨h1, hg⟩, h2⟩, h3⟩, h4⟩, h5⟩ := h'
        exact s_forG (Q.l0 (bne_iff_ne.mp h1)) (okIS Q.si (fun z => by rw [Bool.and_eq_true] at z; exact ⟨Q.si.cm z.2, isTup_of z.1⟩) ci it h4) (tg_ok Q hg h3) (okB b Q body h5) (fs_ok h2)
    | _ => exact fls h
  | .forT i tg b, X, S, ex, lv, Q, st, h => by
    cases st with
    | For tgt it body el p =>
      cases it with
      | Name x px =>
        cases el with
        | cons _ _ => exact fls h
        | nil =>
          have h' : (lv != 1 && tgOk S tg && S.N[i]? == some x && S.fl[i]? == some true && kTg S tg tgt && kB S lv b body) = true := h
          simp only [Bool.and_eq_true] at h'
          obtain ⟨⟨⟨⟨⟨h1, hg⟩, h2⟩, h3⟩, h4⟩, h5⟩ := h'
          have e1 := beq_iff_eq.mp h2
          obtain ⟨v1, v2, v3⟩ := Q.si.vis i x e1 (beq_iff_eq.mp h3)
          exact s_forT (by rw [Q.si.N]; exact e1) v1 v2 v3 (Q.l0 (bne_iff_ne.mp h1)) (fun tl => tg_ok (Q.tpq tl) hg h4) (fun tl => okB b (Q.tpq tl) body h5) (fs_ok rfl)
      | _ => exact fls h
    | _ => exact fls h
  | .pass, X, S, ex, lv, Q, st, h => by
    cases st with
    | Pass _ => exact s_pass
    | _ => exact fls h
theorem okB : ∀ (c : CB) {X : Cx} {S : SI} {ex : St3 → EXK} {lv : Nat}, SSok X S ex lv → ∀ (st : List Stmt), kB S lv c st = true → PSs3 X st (mB S.gl X.K ex c)
  | .nil, X, S, ex, lv, Q, st, h => by
    cases st with
    | nil => exact s_nil
    | cons _ _ => exact fls h
  | .cons s .nil, X, S, ex, lv, Q, st, h => by
    match st, h with
    | [], h => exact fls h
    | [x], h =>
      have h' : (kS S lv s x && kB S lv .nil []) = true := h
      rw [Bool.and_eq_true] at h'
      exact s_one (okS s Q x h'.1)
    | x :: y :: ys, h =>
      have h' : (kS S lv s x && kB S lv .nil (y :: ys)) = true := h
      rw [Bool.and_eq_true] at h'
      exact fls h'.2
  | .cons s (.cons s' r), X, S, ex, lv, Q, st, h => by
    match st, h with
    | [], h => exact fls h
    | x :: ys, h =>
      have h' : (kS S lv s x && kB S lv (.cons s' r) ys) = true := h
      rw [Bool.and_eq_true] at h'
      exact s_cons (okS s Q x h'.1) (okB (.cons s' r) Q ys h'.2)
end
end L4
set_option Elab.async false
set_option linter.all false
set_option maxRecDepth 100000
set_option maxHeartbeats 4000000
namespace L4
open PySem PySem.Spec PyProof.Rows L2
/-- what a def promises: what it made and nobody asks for is forgotten -/
def dropR (R : VK3) : VK3 := fun d G' => ∃ G0, Le G0 G' ∧ R d G0
def dropX (EX : EXK) : EXK := fun C G' => ∃ G0, Le G0 G' ∧ EX C G0
def spD (n m : Nat) (tb : EXK → TS3) : Sp3 := fun ds G R EX => ds.length = m ∧ tb (dropX EX) ⟨fun _ G' => dropR R .non G', dropR R, fun _ _ => False, fun _ _ => False⟩ (start3 n ds) G
theorem dropR.here {R : VK3} {d : D} {G : Gp} (h : R d G) : dropR R d G := ⟨G, .refl G, h⟩
theorem dropX.here {R : EXK} {d : Addr} {G : Gp} (h : R d G) : dropX R d G := ⟨G, .refl G, h⟩
theorem upX_drop {K : Fg} {EX : EXK} {E : XK} (h : UpX K EX E) : UpX K (dropX EX) E := fun C H' G' g ⟨G0, l, q⟩ => h C H' G0 (g.le l) q
theorem def_okD {qt : Bool} {P : Program} {w : World} {K : Fg} {mg : Str → Option Value} {base : Heap} {x qual : Str} {st : Stmt} {f : Addr} {fd : FuncData} {N ps : List Str} {k : Nat} {tb : EXK → TS3} (F : Fun K x qual st f fd) (S : FnScope N ps (defScope st))
    (hbody : ∀ (cdv : Value) (A : Around) (outer : List Env) (s : Shared) (H : Hp) (E : XK) (EX : EXK), Room qt k (A.deeper (envOfC qual (defScope st) s.heap.objs.size f cdv)) → UpX K EX E →
      PSs3 (cx1 qt P w K mg base N qual (defScope st) f cdv A outer s H E) (defBody st) (tb EX)) : FnOk qt P w K mg base (CX1 P w) (k + 1) f fd ps (upSp K (spD N.length ps.length tb)) := by
  refine (def_ok F S hbody).imp fun vs H Q E ⟨ds, G, R, EX, r, g, ⟨hl, q⟩, kk, hE⟩ => ?_
  exact ⟨ds, G, dropR R, dropX EX, r, g, ⟨hl, q⟩, fun v H' d G' r1 g1 ⟨G0, l, q⟩ => kk v H' d G0 r1 (g1.le l) q, upX_drop hE⟩
/-! ### a def by its certificate -/
def GTs (P : Program) (w : World) (K : Fg) (mg : Str → Option Value) (base : Heap) (k : Nat) (x : Str) : GT → Prop
  | .con d => ∃ u v, mg x = some u ∧ RelV v u ∧ ∀ H, RD K H d v
  | .cls a => mg x = some (.ref a) ∧ PySem.W.excIn K a BMv "ValueError.__new__" = true ∧ (PySem.W.clsIn K a).isSome = true ∧ PySem.W.typeIn K (.ref a) = some (.type "type") ∧ PySem.W.subIn K (.ref a) (.type "BaseException") = some true
  | .fn sp n qt => ∃ f fd ps, FnOk qt P w K mg base (CX1 P w) k f fd ps (upSp K sp) ∧ mg x = some (.ref f) ∧ PySem.W.keepIn K (.ref f) = true ∧ Binds K fd ps []
  | .bf b => mg x = none ∧ bootBuiltins x = some (bfVal b)
  | .bt n => mg x = none ∧ bootBuiltins x = some (.type n)
  | .kl C sp dd => ∃ j f fd ps ds dvs, j + 1 = k ∧ Mk K C f ∧ FnOk false P w K mg base (CX1 P w) j f fd ps (upSp K sp) ∧ mg x = some (.ref C) ∧ Binds K fd ps ds ∧ Vals dvs ds ∧ ∀ H, RDs K H dd dvs
  | .me C m sp dd => ∃ f fd ps ds dvs, Cls K C ∧ Meth K C m f ∧ FnOk false P w K mg base (CX1 P w) k f fd ps (upSp K sp) ∧ Binds K fd ps ds ∧ Vals dvs ds ∧ ∀ H, RDs K H dd dvs
  | .fl C f => Cls K C ∧ NoAttr K C f
def locB (sc : Scope) (x : Str) : Bool := match sc.names.lookup x with
  | some .local => true
  | some .cell => true
  | _ => false
def lclB (sc : Scope) (x : Str) : Bool := match sc.names.lookup x with
  | some .local => true
  | _ => false
def gloB (sc : Scope) (x : Str) : Bool := match sc.names.lookup x with
  | some .globalImplicit => true
  | _ => false
def celB (sc : Scope) (x : Str) : Bool := match sc.names.lookup x with
  | some .cell => true
  | _ => false
theorem celB_ok {sc : Scope} {x : Str} (h : celB sc x = true) : sc.names.lookup x = some .cell := by
  unfold celB at h
  split at h
  · rename_i e; exact e
  · exact fls h
def visOk (S : SI) (sc : Scope) : Bool := (List.range S.N.length).all (fun i => match S.N[i]? with
    | none => false
    | some x => x != ("__debug__" : Str) && x != ("__classdict__" : Str) && (S.fl[i]? != some true || locB sc x) && (S.lc[i]? != some true || lclB sc x) && (S.ce[i]? != some true || celB sc x)) &&
  (List.range S.gl.length).all (fun k => match S.gl[k]? with
    | none => false
    | some (y, _) => (S.gv[k]? != some true || gloB sc y) && y != ("__debug__" : Str) && y != ("__name__" : Str))
theorem locB_ok {sc : Scope} {x : Str} (h : locB sc x = true) : Loc sc x := by
  unfold locB at h
  split at h
  · rename_i e; exact .inl e
  · rename_i e; exact .inr e
  · exact fls h
theorem loc_vis {sc : Scope} {x : Str} (h : Loc sc x) : Vis sc x := h.elim .inl fun z => .inr (.inl z)
theorem lclB_ok {sc : Scope} {x : Str} (h : lclB sc x = true) : sc.names.lookup x = some .local := by
  unfold lclB at h
  split at h
  · rename_i e; exact e
  · exact fls h
theorem gloB_ok {sc : Scope} {x : Str} (h : gloB sc x = true) : sc.names.lookup x = some .globalImplicit := by
  unfold gloB at h
  split at h
  · rename_i e; exact e
  · exact fls h
theorem visOk_N {S : SI} {sc : Scope} (h : visOk S sc = true) {i : Nat} {x : Str} (e : S.N[i]? = some x) :
    (x == ("__debug__" : Str)) = false ∧ (x == ("__classdict__" : Str)) = false ∧ (S.fl[i]? = some true → Loc sc x) ∧ (S.lc[i]? = some true → sc.names.lookup x = some .local) ∧ (S.ce[i]? = some true → sc.names.lookup x = some .cell) := by
  unfold visOk at h
  rw [Bool.and_eq_true] at h
  have hi : i < S.N.length := (List.getElem?_eq_some_iff.mp e).1
  have q := List.all_eq_true.mp h.1 i (List.mem_range.mpr hi)
  rw [e] at q
  simp only [Bool.and_eq_true, bne_iff_ne, ne_eq, Bool.or_eq_true] at q
  obtain ⟨⟨⟨⟨q1, q2⟩, q3⟩, q4⟩, q5⟩ := q
  refine ⟨beq_eq_false_iff_ne.mpr q1, beq_eq_false_iff_ne.mpr q2, fun z => ?_, fun z => ?_, fun z => ?_⟩
  · rcases q3 with q | q
    · exact absurd z q
    · exact locB_ok q
  · rcases q4 with q | q
    · exact absurd z q
    · exact lclB_ok q
  · rcases q5 with q | q
    · exact absurd z q
    · exact celB_ok q
theorem visOk_G {S : SI} {sc : Scope} (h : visOk S sc = true) {k : Nat} {x : Str} {g : GT} (e : S.gl[k]? = some (x, g)) : (S.gv[k]? = some true → sc.names.lookup x = some .globalImplicit) ∧ (x == ("__debug__" : Str)) = false ∧ x ≠ "__name__" := by
  unfold visOk at h
  rw [Bool.and_eq_true] at h
  have q := List.all_eq_true.mp h.2 k (List.mem_range.mpr (List.getElem?_eq_some_iff.mp e).1)
  rw [e] at q
  simp only [Bool.and_eq_true, bne_iff_ne, ne_eq, Bool.or_eq_true] at q
  exact ⟨fun z => gloB_ok (q.1.1.resolve_left fun n => n z), beq_eq_false_iff_ne.mpr q.1.2, q.2⟩
theorem def_cert {qt : Bool} {P : Program} {w : World} {K : Fg} {mg : Str → Option Value} {base : Heap} {x qual : Str} {st : Stmt} {f : Addr} {fd : FuncData} {ps : List Str} {k : Nat} {S : SI} {c : CB} (F : Fun K x qual st f fd) (hS : FnScope S.N ps (defScope st))
    (hc : S.calm = !qt) (hv : visOk S (defScope st) = true) (hk : kB S 0 c (defBody st) = true) (hg : ∀ (j : Nat) (y : Str) (g : GT), S.gl[j]? = some (y, g) → GTs P w K mg base k y g) :
    FnOk qt P w K mg base (CX1 P w) (k + 1) f fd ps (upSp K (spD S.N.length ps.length fun EX => mB S.gl K (fun _ => EX) c)) := by
  refine def_okD F hS fun cdv A outer s H E EX hr hE => ?_
  refine okB c (X := cx1 qt P w K mg base S.N qual (defScope st) f cdv A outer s H E) (S := S) (ex := fun _ => EX) (lv := 0) ?_ (defBody st) hk
  refine ⟨⟨rfl, hS.nd, fun i y e1 e2 => ?_, fun i y e1 e2 => .inl ((visOk_N hv e1).2.2.2.2 e2), fun j y g e => ?_, hr.units, fun z => hc.symm.trans z, cat1 hE⟩, fun i y e1 e2 => ?_, fun i y e1 e2 => ?_, fun _ => rfl, fun j y a e _ => ?_, fun _ => own1, fun _ _ => thr1 hE, rfl, rfl⟩
  · obtain ⟨a1, a2, a3, a4⟩ := visOk_N hv e1
    exact ⟨loc_vis (a3 e2), a1, a2⟩
  · obtain ⟨a1, a2, a3⟩ := visOk_G hv e
    have z := hg j y g e
    refine ⟨a1, a2, a3, ?_⟩
    cases g with
    | con d => exact z
    | cls a => exact ⟨z.1, z.2.1⟩
    | fn sp n q2 =>
      intro hz
      obtain ⟨f', fd', ps', F', m', k', b'⟩ := z
      refine ⟨k, f', fd', ps', F', ⟨fun e => hr.hd ?_, hr.dp, hr.un⟩, m', k', b'⟩
      have hs : S.calm = true := hz.resolve_left (by rw [e]; decide)
      rw [hc] at hs
      simpa using hs
    | bf b => exact z
    | bt n => exact z
    | kl C sp dd =>
      intro hs
      obtain ⟨j', f', fd', ps', ds, dvs, rfl, q1, q2, q3, q4, q5, q6⟩ := z
      rw [hc] at hs
      exact ⟨j', f', fd', ps', ds, dvs, q1, q2, ⟨fun _ => hr.hd (by simpa using hs), hr.dp, hr.un⟩, q3, q4, q5, q6⟩
    | me C m sp dd =>
      intro hs
      obtain ⟨f', fd', ps', ds, dvs, q1, q2, q3, q4, q5, q6⟩ := z
      rw [hc] at hs
      exact ⟨k, f', fd', ps', ds, dvs, q1, q2, q3, ⟨fun _ => hr.hd (by simpa using hs), hr.dp, hr.un⟩, q4, q5, q6⟩
    | fl C f => exact z
  · exact (visOk_N hv e1).2.2.1 e2
  · exact (visOk_N hv e1).2.2.2.1 e2
  · have z := hg j y _ e
    exact z.2
end L4
set_option Elab.async false
set_option linter.all false
set_option maxRecDepth 100000
set_option maxHeartbeats 4000000
namespace L4
open PySem PySem.Spec PyProof.Rows L2
theorem gln {P : Str → GT → Prop} : ∀ (j : Nat) (y : Str) (g : GT), ([] : List (Str × GT))[j]? = some (y, g) → P y g := fun j y g h => by simp at h
theorem glc {P : Str → GT → Prop} {x : Str} {g : GT} {l : List (Str × GT)} (h : P x g) (r : ∀ (j : Nat) (y : Str) (g : GT), l[j]? = some (y, g) → P y g) : ∀ (j : Nat) (y : Str) (g' : GT), ((x, g) :: l)[j]? = some (y, g') → P y g'
  | 0, y, g', e => by simp at e; obtain ⟨e1, e2⟩ := e; subst e1; subst e2; exact h
  | j + 1, y, g', e => r j y g' (by simpa using e)
section
variable {P : Program} {w : World} {K : Fg} {mg : Str → Option Value} {base : Heap} {k : Nat} {x : Str}
theorem gcS {z : Str} (h : ∃ t, mg x = some (.str z t)) : GTs P w K mg base k x (.con (.str z)) := by
  obtain ⟨t, h⟩ := h
  exact ⟨_, .str z, h, ⟨t, rfl⟩, fun _ => .str z⟩
theorem gcI {z : Int} (h : ∃ t, mg x = some (.int z t)) : GTs P w K mg base k x (.con (.int z)) := by
  obtain ⟨t, h⟩ := h
  exact ⟨_, .int z, h, ⟨t, rfl⟩, fun _ => .int z⟩
end
theorem bt_range : bootBuiltins "range" = some (.type "range") := by decide +kernel
theorem bt_reversed : bootBuiltins "reversed" = some (.type "reversed") := by decide +kernel
end L4
set_option Elab.async false
set_option linter.all false
namespace L4
open PySem PySem.Spec PyProof.Rows L2
/-- all arguments handed in -/
theorem bindsD0 {K : Fg} {fd : FuncData} {ps : List Str} (h : ∀ us : List Value, us.length = ps.length → bindArgs fd ⟨us, []⟩ = pure (ps.zip us)) : Binds K fd ps [] := Binds.all h
end L4
set_option Elab.async false
set_option linter.all false
set_option maxRecDepth 100000
set_option maxHeartbeats 4000000
namespace L5
open PySem PySem.Spec PyProof.Rows L2 L4
/-! ### readings, step by step: equations for simp -/
def onB (x : D) (f : Bool → Prop) : Prop := match x with
  | .bl k => f k
  | _ => False
def onI (x : D) (f : Int → Prop) : Prop := match x with
  | .int k => f k
  | _ => False
theorem onB_bl {k : Bool} {f : Bool → Prop} : onB (.bl k) f = f k := rfl
theorem onI_int {k : Int} {f : Int → Prop} : onI (.int k) f = f k := rfl
def lenOk (xs : List D) : Prop := xs.length ≤ sizeLine
theorem lenOk0 : lenOk [] = True := eq_true (show 0 ≤ sizeLine by decide)
theorem lenOk1 {a0 : D} : lenOk [a0] = True := eq_true (show 1 ≤ sizeLine by decide)
theorem lenOk2 {a0 a1 : D} : lenOk [a0, a1] = True := eq_true (show 2 ≤ sizeLine by decide)
theorem lenOk3 {a0 a1 a2 : D} : lenOk [a0, a1, a2] = True := eq_true (show 3 ≤ sizeLine by decide)
theorem lenOk4 {a0 a1 a2 a3 : D} : lenOk [a0, a1, a2, a3] = True := eq_true (show 4 ≤ sizeLine by decide)
theorem lenOk5 {a0 a1 a2 a3 a4 : D} : lenOk [a0, a1, a2, a3, a4] = True := eq_true (show 5 ≤ sizeLine by decide)
theorem lenOk6 {a0 a1 a2 a3 a4 a5 : D} : lenOk [a0, a1, a2, a3, a4, a5] = True := eq_true (show 6 ≤ sizeLine by decide)
theorem lenOk7 {a0 a1 a2 a3 a4 a5 a6 : D} : lenOk [a0, a1, a2, a3, a4, a5, a6] = True := eq_true (show 7 ≤ sizeLine by decide)
theorem lenOk8 {a0 a1 a2 a3 a4 a5 a6 a7 : D} : lenOk [a0, a1, a2, a3, a4, a5, a6, a7] = True := eq_true (show 8 ≤ sizeLine by decide)
theorem lenOk9 {a0 a1 a2 a3 a4 a5 a6 a7 a8 : D} : lenOk [a0, a1, a2, a3, a4, a5, a6, a7, a8] = True := eq_true (show 9 ≤ sizeLine by decide)
theorem lenOk10 {a0 a1 a2 a3 a4 a5 a6 a7 a8 a9 : D} : lenOk [a0, a1, a2, a3, a4, a5, a6, a7, a8, a9] = True := eq_true (show 10 ≤ sizeLine by decide)
theorem lenOk11 {a0 a1 a2 a3 a4 a5 a6 a7 a8 a9 a10 : D} : lenOk [a0, a1, a2, a3, a4, a5, a6, a7, a8, a9, a10] = True := eq_true (show 11 ≤ sizeLine by decide)
theorem lenOk12 {a0 a1 a2 a3 a4 a5 a6 a7 a8 a9 a10 a11 : D} : lenOk [a0, a1, a2, a3, a4, a5, a6, a7, a8, a9, a10, a11] = True := eq_true (show 12 ≤ sizeLine by decide)
theorem lenOk13 {a0 a1 a2 a3 a4 a5 a6 a7 a8 a9 a10 a11 a12 : D} : lenOk [a0, a1, a2, a3, a4, a5, a6, a7, a8, a9, a10, a11, a12] = True := eq_true (show 13 ≤ sizeLine by decide)
theorem lenOk14 {a0 a1 a2 a3 a4 a5 a6 a7 a8 a9 a10 a11 a12 a13 : D} : lenOk [a0, a1, a2, a3, a4, a5, a6, a7, a8, a9, a10, a11, a12, a13] = True := eq_true (show 14 ≤ sizeLine by decide)
theorem lenOk15 {a0 a1 a2 a3 a4 a5 a6 a7 a8 a9 a10 a11 a12 a13 a14 : D} : lenOk [a0, a1, a2, a3, a4, a5, a6, a7, a8, a9, a10, a11, a12, a13, a14] = True := eq_true (show 15 ≤ sizeLine by decide)
theorem lenOk16 {a0 a1 a2 a3 a4 a5 a6 a7 a8 a9 a10 a11 a12 a13 a14 a15 : D} : lenOk [a0, a1, a2, a3, a4, a5, a6, a7, a8, a9, a10, a11, a12, a13, a14, a15] = True := eq_true (show 16 ≤ sizeLine by decide)
theorem lenOk17 {a0 a1 a2 a3 a4 a5 a6 a7 a8 a9 a10 a11 a12 a13 a14 a15 a16 : D} : lenOk [a0, a1, a2, a3, a4, a5, a6, a7, a8, a9, a10, a11, a12, a13, a14, a15, a16] = True := eq_true (show 17 ≤ sizeLine by decide)
theorem lenOk18 {a0 a1 a2 a3 a4 a5 a6 a7 a8 a9 a10 a11 a12 a13 a14 a15 a16 a17 : D} : lenOk [a0, a1, a2, a3, a4, a5, a6, a7, a8, a9, a10, a11, a12, a13, a14, a15, a16, a17] = True := eq_true (show 18 ≤ sizeLine by decide)
theorem lenOk19 {a0 a1 a2 a3 a4 a5 a6 a7 a8 a9 a10 a11 a12 a13 a14 a15 a16 a17 a18 : D} : lenOk [a0, a1, a2, a3, a4, a5, a6, a7, a8, a9, a10, a11, a12, a13, a14, a15, a16, a17, a18] = True := eq_true (show 19 ≤ sizeLine by decide)
theorem lenOk20 {a0 a1 a2 a3 a4 a5 a6 a7 a8 a9 a10 a11 a12 a13 a14 a15 a16 a17 a18 a19 : D} : lenOk [a0, a1, a2, a3, a4, a5, a6, a7, a8, a9, a10, a11, a12, a13, a14, a15, a16, a17, a18, a19] = True := eq_true (show 20 ≤ sizeLine by decide)
theorem lenOk21 {a0 a1 a2 a3 a4 a5 a6 a7 a8 a9 a10 a11 a12 a13 a14 a15 a16 a17 a18 a19 a20 : D} : lenOk [a0, a1, a2, a3, a4, a5, a6, a7, a8, a9, a10, a11, a12, a13, a14, a15, a16, a17, a18, a19, a20] = True := eq_true (show 21 ≤ sizeLine by decide)
theorem lenOk22 {a0 a1 a2 a3 a4 a5 a6 a7 a8 a9 a10 a11 a12 a13 a14 a15 a16 a17 a18 a19 a20 a21 : D} : lenOk [a0, a1, a2, a3, a4, a5, a6, a7, a8, a9, a10, a11, a12, a13, a14, a15, a16, a17, a18, a19, a20, a21] = True := eq_true (show 22 ≤ sizeLine by decide)
theorem lenOk23 {a0 a1 a2 a3 a4 a5 a6 a7 a8 a9 a10 a11 a12 a13 a14 a15 a16 a17 a18 a19 a20 a21 a22 : D} : lenOk [a0, a1, a2, a3, a4, a5, a6, a7, a8, a9, a10, a11, a12, a13, a14, a15, a16, a17, a18, a19, a20, a21, a22] = True := eq_true (show 23 ≤ sizeLine by decide)
theorem lenOk24 {a0 a1 a2 a3 a4 a5 a6 a7 a8 a9 a10 a11 a12 a13 a14 a15 a16 a17 a18 a19 a20 a21 a22 a23 : D} : lenOk [a0, a1, a2, a3, a4, a5, a6, a7, a8, a9, a10, a11, a12, a13, a14, a15, a16, a17, a18, a19, a20, a21, a22, a23] = True := eq_true (show 24 ≤ sizeLine by decide)
theorem lenOk25 {a0 a1 a2 a3 a4 a5 a6 a7 a8 a9 a10 a11 a12 a13 a14 a15 a16 a17 a18 a19 a20 a21 a22 a23 a24 : D} : lenOk [a0, a1, a2, a3, a4, a5, a6, a7, a8, a9, a10, a11, a12, a13, a14, a15, a16, a17, a18, a19, a20, a21, a22, a23, a24] = True := eq_true (show 25 ≤ sizeLine by decide)
theorem lenOk26 {a0 a1 a2 a3 a4 a5 a6 a7 a8 a9 a10 a11 a12 a13 a14 a15 a16 a17 a18 a19 a20 a21 a22 a23 a24 a25 : D} : lenOk [a0, a1, a2, a3, a4, a5, a6, a7, a8, a9, a10, a11, a12, a13, a14, a15, a16, a17, a18, a19, a20, a21, a22, a23, a24, a25] = True := eq_true (show 26 ≤ sizeLine by decide)
theorem lenOk27 {a0 a1 a2 a3 a4 a5 a6 a7 a8 a9 a10 a11 a12 a13 a14 a15 a16 a17 a18 a19 a20 a21 a22 a23 a24 a25 a26 : D} : lenOk [a0, a1, a2, a3, a4, a5, a6, a7, a8, a9, a10, a11, a12, a13, a14, a15, a16, a17, a18, a19, a20, a21, a22, a23, a24, a25, a26] = True := eq_true (show 27 ≤ sizeLine by decide)
theorem lenOk28 {a0 a1 a2 a3 a4 a5 a6 a7 a8 a9 a10 a11 a12 a13 a14 a15 a16 a17 a18 a19 a20 a21 a22 a23 a24 a25 a26 a27 : D} : lenOk [a0, a1, a2, a3, a4, a5, a6, a7, a8, a9, a10, a11, a12, a13, a14, a15, a16, a17, a18, a19, a20, a21, a22, a23, a24, a25, a26, a27] = True := eq_true (show 28 ≤ sizeLine by decide)
theorem lenOk29 {a0 a1 a2 a3 a4 a5 a6 a7 a8 a9 a10 a11 a12 a13 a14 a15 a16 a17 a18 a19 a20 a21 a22 a23 a24 a25 a26 a27 a28 : D} : lenOk [a0, a1, a2, a3, a4, a5, a6, a7, a8, a9, a10, a11, a12, a13, a14, a15, a16, a17, a18, a19, a20, a21, a22, a23, a24, a25, a26, a27, a28] = True := eq_true (show 29 ≤ sizeLine by decide)
theorem lenOk30 {a0 a1 a2 a3 a4 a5 a6 a7 a8 a9 a10 a11 a12 a13 a14 a15 a16 a17 a18 a19 a20 a21 a22 a23 a24 a25 a26 a27 a28 a29 : D} : lenOk [a0, a1, a2, a3, a4, a5, a6, a7, a8, a9, a10, a11, a12, a13, a14, a15, a16, a17, a18, a19, a20, a21, a22, a23, a24, a25, a26, a27, a28, a29] = True := eq_true (show 30 ≤ sizeLine by decide)
section
variable {t u : TS3} {F : Ends3} {ρ : St3} {G : Gp} {R : VK3} {te ta tb tc : TE3} {tt tt' : TT3} {tA : TA3} {K : Fg}
theorem x_seq : tSeq3 t u F ρ G = t { F with nx := u F } ρ G := rfl
theorem x_next : tNext3 F ρ G = F.nx ρ G := rfl
theorem x_brk : tBreak3 F ρ G = F.bk ρ G := rfl
theorem x_cont : tCont3 F ρ G = F.ct ρ G := rfl
theorem x_drop : tDrop3 te F ρ G = te ρ G fun _ G1 => F.nx ρ G1 := rfl
theorem x_ret : tRet3 te F ρ G = te ρ G F.rt := rfl
theorem x_retN : tRetN3 F ρ G = F.rt .non G := rfl
theorem x_ifs : tIfS3 tt t u F ρ G = tt ρ G fun b G1 => if b = true then t F ρ G1 else u F ρ G1 := rfl
theorem x_set {i : Nat} : tSet3 i te F ρ G = te ρ G fun x G1 => F.nx (set3 ρ i x) G1 := rfl
theorem x_raise {EX : St3 → EXK} {C : Addr} : tRaise3 EX C tA F ρ G = tA ρ G fun ds G1 => lenOk ds ∧ EX ρ C G1 := rfl
theorem x_try {C : Addr} {i : Nat} {bd : (St3 → EXK) → TS3} : tTry3 K C i bd t F ρ G = bd (fun ρ1 C' G1 => PySem.W.subIn K (.ref C') (.ref C) = some true ∧ ∀ x, G1 x = none → t { nx := fun ρ2 G2 => F.nx (clr3 ρ2 i) G2, rt := F.rt, bk := fun ρ2 G2 => F.bk (clr3 ρ2 i) G2, ct := fun ρ2 G2 => F.ct (clr3 ρ2 i) G2 } (set3 ρ1 i (.ref x)) (updG G1 x (.exn C'))) F ρ G := rfl
theorem x_c {d : D} : tC3 d ρ G R = R d G := rfl
theorem x_var0 {d : D} : tVar3 0 (some d :: ρ) G R = R d G := rfl
theorem x_varS {o : Option D} {n : Nat} : tVar3 (n + 1) (o :: ρ) G R = tVar3 n ρ G R := rfl
theorem x_set0 {o : Option D} {d : D} : set3 (o :: ρ) 0 d = some d :: ρ := rfl
theorem x_setS {o : Option D} {n : Nat} {d : D} : set3 (o :: ρ) (n + 1) d = o :: set3 ρ n d := rfl
theorem x_clr0 {o : Option D} : clr3 (o :: ρ) 0 = none :: ρ := rfl
theorem x_clrS {o : Option D} {n : Nat} : clr3 (o :: ρ) (n + 1) = o :: clr3 ρ n := rfl
theorem x_op {r : R3} : tOp3 r ta tb ρ G R = ta ρ G fun x G1 => tb ρ G1 fun y G2 => r x y G2 R := rfl
theorem x_test {Q : Bool → Gp → Prop} : tTest3 te ρ G Q = te ρ G fun x G1 => onB x fun k => Q k G1 := rfl
theorem x_chain {r r' : R3} : tChain3 r r' ta tb tc ρ G R = ta ρ G fun x G1 => tb ρ G1 fun y G2 => r x y G2 fun z G3 => onB z fun k => if k = true then tc ρ G3 fun w G4 => r' y w G4 R else R (.bl false) G3 := by
  unfold tChain3; congr 1; funext x G1; congr 1; funext y G2; congr 1; funext z G3
  cases z with
  | bl k => cases k <;> rfl
  | _ => rfl
theorem x_and {Q : Bool → Gp → Prop} : tAnd3 tt tt' ρ G Q = tt ρ G fun c G1 => if c = true then tt' ρ G1 Q else Q false G1 := rfl
theorem x_or {Q : Bool → Gp → Prop} : tOr3 tt tt' ρ G Q = tt ρ G fun c G1 => if c = true then Q true G1 else tt' ρ G1 Q := rfl
theorem x_not {Q : Bool → Gp → Prop} : tNot3 tt ρ G Q = tt ρ G fun c G1 => Q (!c) G1 := rfl
theorem x_andV : tAndV3 ta tb ρ G R = ta ρ G fun x G1 => onB x fun k => if k = true then tb ρ G1 R else R (.bl false) G1 := by
  unfold tAndV3; congr 1; funext x G1
  cases x with
  | bl k => cases k <;> rfl
  | _ => rfl
theorem x_orV : tOrV3 ta tb ρ G R = ta ρ G fun x G1 => onB x fun k => if k = true then R (.bl true) G1 else tb ρ G1 R := by
  unfold tOrV3; congr 1; funext x G1
  cases x with
  | bl k => cases k <;> rfl
  | _ => rfl
theorem x_notV : tNotV3 ta ρ G R = ta ρ G fun x G1 => onB x fun k => R (.bl (!k)) G1 := rfl
theorem x_neg : tNeg3 ta ρ G R = ta ρ G fun x G1 => onI x fun k => R (.int (-k)) G1 := rfl
theorem x_ifx : tIf3 tt ta tb ρ G R = tt ρ G fun c G1 => if c = true then ta ρ G1 R else tb ρ G1 R := rfl
theorem x_nil {Q : List D → Gp → Prop} : tNil3 ρ G Q = Q [] G := rfl
theorem x_cons {Q : List D → Gp → Prop} : tCons3 te tA ρ G Q = te ρ G fun x G1 => tA ρ G1 fun xs G2 => Q (x :: xs) G2 := rfl
theorem x_tup : tTup3 tA ρ G R = tA ρ G fun xs G1 => lenOk xs ∧ R (.tup xs) G1 := rfl
theorem x_lst : tLst3 tA ρ G R = tA ρ G fun xs G1 => lenOk xs ∧ ∀ p, G1 p = none → R (.ref p) (updG G1 p (.lst xs)) := rfl
theorem x_dct : tDNew3 ρ G R = ∀ p, G p = none → R (.ref p) (updG G p (.dic false [])) := rfl
theorem x_call {sp : Sp3} {ex : St3 → EXK} : tCallX sp ex tA ρ G R = tA ρ G fun ds G1 => sp ds G1 R (ex ρ) := rfl
theorem x_cb {r : List D → Gp → VK3 → Prop} : tCB3 r tA ρ G R = tA ρ G fun xs G1 => r xs G1 R := rfl
theorem x_m {T : String} {r : RM3} : tM3 T r te tA ρ G R = te ρ G fun x G1 => tyOk T G1 x ∧ tA ρ G1 fun xs G2 => r x xs G2 R := rfl
theorem x_m0 {T : String} {r : RM3} : tM03 T r te ρ G R = te ρ G fun x G1 => tyOk T G1 x ∧ r x [] G1 R := rfl
theorem x_tyStr {z : Str} : tyOk "str" G (.str z) = True := eq_true rfl
theorem x_tyLst {p : Addr} : tyOk "list" G (.ref p) = ((lsOf G p).isSome = true) := by unfold tyOk; simp
theorem x_nopart {Q : Option Int → Gp → Prop} : tNoPart3 ρ G Q = Q none G := rfl
theorem x_part {Q : Option Int → Gp → Prop} : tPart3 te ρ G Q = te ρ G fun x G1 => onI x fun k => Q (some k) G1 := rfl
theorem x_slice {tl th : TO3} : tSlice3 te tl th ρ G R = te ρ G fun x G1 => tl ρ G1 fun lo G2 => th ρ G2 fun hi G3 => rSl3 x lo hi G3 R := rfl
/-! operations -/
theorem x_add_ii {i j : Int} : rAdd3 (.int i) (.int j) G R = R (.int (i + j)) G := rfl
theorem x_add_ss {i j : Str} : rAdd3 (.str i) (.str j) G R = (i.length + j.length ≤ sizeLine ∧ R (.str (i ++ j)) G) := rfl
theorem x_add_tt {xs ys : List D} : rAdd3 (.tup xs) (.tup ys) G R = (xs.length + ys.length ≤ sizeLine ∧ R (.tup (xs ++ ys)) G) := rfl
theorem x_sub {i j : Int} : rSub3 (.int i) (.int j) G R = R (.int (i - j)) G := rfl
theorem x_mul {i j : Int} : rMul3 (.int i) (.int j) G R = (CMul i j ∧ R (.int (i * j)) G) := rfl
theorem x_fdiv {i j : Int} : rFdiv3 (.int i) (.int j) G R = (CDiv i j ∧ R (.int (i / j)) G) := rfl
theorem x_mod {i j : Int} : rMod3 (.int i) (.int j) G R = (0 < j ∧ R (.int (i % j)) G) := rfl
theorem x_pow {i j : Int} : rPow3 (.int i) (.int j) G R = (CPow i j ∧ R (.int (i ^ j.toNat)) G) := rfl
theorem x_lt {i j : Int} : rLt3 (.int i) (.int j) G R = R (.bl (decide (i < j))) G := rfl
theorem x_gt {i j : Int} : rGt3 (.int i) (.int j) G R = R (.bl (decide (j < i))) G := rfl
theorem x_ge {i j : Int} : rGe3 (.int i) (.int j) G R = R (.bl (decide (j ≤ i))) G := rfl
theorem x_le {i j : Int} : rLe3 (.int i) (.int j) G R = R (.bl (decide (i ≤ j))) G := rfl
theorem x_le_s {i j : Str} : rLe3 (.str i) (.str j) G R = R (.bl (!decide (j.cps.toList < i.cps.toList))) G := rfl
theorem x_in_ss {i j : Str} : rIn3 (.str i) (.str j) G R = R (.bl (!(Builtin.Str.occurrences j i 0 j.length 1).isEmpty)) G := rfl
theorem x_notin_ss {i j : Str} : rNotIn3 (.str i) (.str j) G R = R (.bl (!!(Builtin.Str.occurrences j i 0 j.length 1).isEmpty)) G := rfl
theorem x_eq_ii {i j : Int} : rEq3 (.int i) (.int j) G R = R (.bl (i == j)) G := by
  show (shal 20 (.int i) = true ∧ shal 20 (.int j) = true ∧ _) = _
  simp [shal, eqP]
theorem x_ne_ii {i j : Int} : rNe3 (.int i) (.int j) G R = R (.bl (!(i == j))) G := by
  show (shal 20 (.int i) = true ∧ shal 20 (.int j) = true ∧ _) = _
  simp [shal, eqP]
theorem x_eq_bb {i j : Bool} : rEq3 (.bl i) (.bl j) G R = R (.bl (i == j)) G := by
  show (shal 20 (.bl i) = true ∧ shal 20 (.bl j) = true ∧ _) = _
  simp [shal, eqP]
theorem x_ne_bb {i j : Bool} : rNe3 (.bl i) (.bl j) G R = R (.bl (!(i == j))) G := by
  show (shal 20 (.bl i) = true ∧ shal 20 (.bl j) = true ∧ _) = _
  simp [shal, eqP]
theorem x_eq_ss {i j : Str} : rEq3 (.str i) (.str j) G R = R (.bl (i == j)) G := by
  show (shal 20 (.str i) = true ∧ shal 20 (.str j) = true ∧ _) = _
  simp [shal, eqP]
theorem x_ne_ss {i j : Str} : rNe3 (.str i) (.str j) G R = R (.bl (!(i == j))) G := by
  show (shal 20 (.str i) = true ∧ shal 20 (.str j) = true ∧ _) = _
  simp [shal, eqP]
theorem x_eq_tt {xs ys : List D} : rEq3 (.tup xs) (.tup ys) G R = (shal 20 (.tup xs) = true ∧ shal 20 (.tup ys) = true ∧ R (.bl (eqP (.tup xs) (.tup ys))) G) := rfl
theorem x_ne_tt {xs ys : List D} : rNe3 (.tup xs) (.tup ys) G R = (shal 20 (.tup xs) = true ∧ shal 20 (.tup ys) = true ∧ R (.bl (!eqP (.tup xs) (.tup ys))) G) := rfl
theorem x_len_s {z : Str} : r_len [.str z] G R = (z.length ≤ sizeLine ∧ R (.int z.length) G) := rfl
theorem x_len_t {ds : List D} : r_len [.tup ds] G R = R (.int ds.length) G := rfl
theorem x_len_r {q : Addr} {ds : List D} (h : lsOf G q = some ds) : r_len [.ref q] G R = R (.int ds.length) G := by unfold r_len; simp only [h]
theorem x_abs {i : Int} : r_abs [.int i] G R = R (.int (if i < 0 then -i else i)) G := rfl
theorem x_int_b {b : Bool} : r_int [.bl b] G R = R (.int (if b then 1 else 0)) G := rfl
theorem x_int_i {b : Int} : r_int [.int b] G R = R (.int b) G := rfl
theorem x_ix_t {xs : List D} {i : Int} {d : D} (h : atI xs i = some d) : rIx3 (.tup xs) (.int i) G R = R d G := by unfold rIx3; simp only [h]
theorem x_ix_s {z : Str} {i : Int} {c : Nat} (h : atI z.cps.toList i = some c) : rIx3 (.str z) (.int i) G R = (z.length ≤ sizeLine ∧ R (.str ⟨#[c]⟩) G) := by unfold rIx3; simp only [h]
theorem x_ix_r {p : Addr} {xs : List D} {i : Int} {d : D} (e : lsOf G p = some xs) (h : atI xs i = some d) : rIx3 (.ref p) (.int i) G R = R d G := by unfold rIx3; simp only [e, h]
theorem x_is_nn : rIs3 .non .non G R = R (.bl true) G := rfl
theorem x_is_bb {i j : Bool} : rIs3 (.bl i) (.bl j) G R = R (.bl (i == j)) G := rfl
theorem x_isnt_bb {i j : Bool} : rIsnt3 (.bl i) (.bl j) G R = R (.bl (!(i == j))) G := rfl
theorem x_isnt_nn : rIsnt3 .non .non G R = R (.bl false) G := rfl
theorem isi_non_int : r_isinstance K [.non, .ty "int"] G R = R (.bl false) G := by
  show ("int" ∈ tysR ∧ R (.bl (L2.subB "NoneType" "int")) G) = _
  rw [show L2.subB "NoneType" "int" = false from by decide]; simp [tysR]
theorem isi_non_bool : r_isinstance K [.non, .ty "bool"] G R = R (.bl false) G := by
  show ("bool" ∈ tysR ∧ R (.bl (L2.subB "NoneType" "bool")) G) = _
  rw [show L2.subB "NoneType" "bool" = false from by decide]; simp [tysR]
theorem isi_non_str : r_isinstance K [.non, .ty "str"] G R = R (.bl false) G := by
  show ("str" ∈ tysR ∧ R (.bl (L2.subB "NoneType" "str")) G) = _
  rw [show L2.subB "NoneType" "str" = false from by decide]; simp [tysR]
theorem isi_non_list : r_isinstance K [.non, .ty "list"] G R = R (.bl false) G := by
  show ("list" ∈ tysR ∧ R (.bl (L2.subB "NoneType" "list")) G) = _
  rw [show L2.subB "NoneType" "list" = false from by decide]; simp [tysR]
theorem isi_non_tuple : r_isinstance K [.non, .ty "tuple"] G R = R (.bl false) G := by
  show ("tuple" ∈ tysR ∧ R (.bl (L2.subB "NoneType" "tuple")) G) = _
  rw [show L2.subB "NoneType" "tuple" = false from by decide]; simp [tysR]
theorem isi_non_dict : r_isinstance K [.non, .ty "dict"] G R = R (.bl false) G := by
  show ("dict" ∈ tysR ∧ R (.bl (L2.subB "NoneType" "dict")) G) = _
  rw [show L2.subB "NoneType" "dict" = false from by decide]; simp [tysR]
theorem isi_bl_int {b : Bool} : r_isinstance K [(.bl b), .ty "int"] G R = R (.bl true) G := by
  show ("int" ∈ tysR ∧ R (.bl (L2.subB "bool" "int")) G) = _
  rw [show L2.subB "bool" "int" = true from by decide]; simp [tysR]
theorem isi_bl_bool {b : Bool} : r_isinstance K [(.bl b), .ty "bool"] G R = R (.bl true) G := by
  show ("bool" ∈ tysR ∧ R (.bl (L2.subB "bool" "bool")) G) = _
  rw [show L2.subB "bool" "bool" = true from by decide]; simp [tysR]
theorem isi_bl_str {b : Bool} : r_isinstance K [(.bl b), .ty "str"] G R = R (.bl false) G := by
  show ("str" ∈ tysR ∧ R (.bl (L2.subB "bool" "str")) G) = _
  rw [show L2.subB "bool" "str" = false from by decide]; simp [tysR]
theorem isi_bl_list {b : Bool} : r_isinstance K [(.bl b), .ty "list"] G R = R (.bl false) G := by
  show ("list" ∈ tysR ∧ R (.bl (L2.subB "bool" "list")) G) = _
  rw [show L2.subB "bool" "list" = false from by decide]; simp [tysR]
theorem isi_bl_tuple {b : Bool} : r_isinstance K [(.bl b), .ty "tuple"] G R = R (.bl false) G := by
  show ("tuple" ∈ tysR ∧ R (.bl (L2.subB "bool" "tuple")) G) = _
  rw [show L2.subB "bool" "tuple" = false from by decide]; simp [tysR]
theorem isi_bl_dict {b : Bool} : r_isinstance K [(.bl b), .ty "dict"] G R = R (.bl false) G := by
  show ("dict" ∈ tysR ∧ R (.bl (L2.subB "bool" "dict")) G) = _
  rw [show L2.subB "bool" "dict" = false from by decide]; simp [tysR]
theorem isi_int_int {i : Int} : r_isinstance K [(.int i), .ty "int"] G R = R (.bl true) G := by
  show ("int" ∈ tysR ∧ R (.bl (L2.subB "int" "int")) G) = _
  rw [show L2.subB "int" "int" = true from by decide]; simp [tysR]
theorem isi_int_bool {i : Int} : r_isinstance K [(.int i), .ty "bool"] G R = R (.bl false) G := by
  show ("bool" ∈ tysR ∧ R (.bl (L2.subB "int" "bool")) G) = _
  rw [show L2.subB "int" "bool" = false from by decide]; simp [tysR]
theorem isi_int_str {i : Int} : r_isinstance K [(.int i), .ty "str"] G R = R (.bl false) G := by
  show ("str" ∈ tysR ∧ R (.bl (L2.subB "int" "str")) G) = _
  rw [show L2.subB "int" "str" = false from by decide]; simp [tysR]
theorem isi_int_list {i : Int} : r_isinstance K [(.int i), .ty "list"] G R = R (.bl false) G := by
  show ("list" ∈ tysR ∧ R (.bl (L2.subB "int" "list")) G) = _
  rw [show L2.subB "int" "list" = false from by decide]; simp [tysR]
theorem isi_int_tuple {i : Int} : r_isinstance K [(.int i), .ty "tuple"] G R = R (.bl false) G := by
  show ("tuple" ∈ tysR ∧ R (.bl (L2.subB "int" "tuple")) G) = _
  rw [show L2.subB "int" "tuple" = false from by decide]; simp [tysR]
theorem isi_int_dict {i : Int} : r_isinstance K [(.int i), .ty "dict"] G R = R (.bl false) G := by
  show ("dict" ∈ tysR ∧ R (.bl (L2.subB "int" "dict")) G) = _
  rw [show L2.subB "int" "dict" = false from by decide]; simp [tysR]
theorem isi_str_int {z : Str} : r_isinstance K [(.str z), .ty "int"] G R = R (.bl false) G := by
  show ("int" ∈ tysR ∧ R (.bl (L2.subB "str" "int")) G) = _
  rw [show L2.subB "str" "int" = false from by decide]; simp [tysR]
theorem isi_str_bool {z : Str} : r_isinstance K [(.str z), .ty "bool"] G R = R (.bl false) G := by
  show ("bool" ∈ tysR ∧ R (.bl (L2.subB "str" "bool")) G) = _
  rw [show L2.subB "str" "bool" = false from by decide]; simp [tysR]
theorem isi_str_str {z : Str} : r_isinstance K [(.str z), .ty "str"] G R = R (.bl true) G := by
  show ("str" ∈ tysR ∧ R (.bl (L2.subB "str" "str")) G) = _
  rw [show L2.subB "str" "str" = true from by decide]; simp [tysR]
theorem isi_str_list {z : Str} : r_isinstance K [(.str z), .ty "list"] G R = R (.bl false) G := by
  show ("list" ∈ tysR ∧ R (.bl (L2.subB "str" "list")) G) = _
  rw [show L2.subB "str" "list" = false from by decide]; simp [tysR]
theorem isi_str_tuple {z : Str} : r_isinstance K [(.str z), .ty "tuple"] G R = R (.bl false) G := by
  show ("tuple" ∈ tysR ∧ R (.bl (L2.subB "str" "tuple")) G) = _
  rw [show L2.subB "str" "tuple" = false from by decide]; simp [tysR]
theorem isi_str_dict {z : Str} : r_isinstance K [(.str z), .ty "dict"] G R = R (.bl false) G := by
  show ("dict" ∈ tysR ∧ R (.bl (L2.subB "str" "dict")) G) = _
  rw [show L2.subB "str" "dict" = false from by decide]; simp [tysR]
theorem isi_tup_int {xs : List D} : r_isinstance K [(.tup xs), .ty "int"] G R = R (.bl false) G := by
  show ("int" ∈ tysR ∧ R (.bl (L2.subB "tuple" "int")) G) = _
  rw [show L2.subB "tuple" "int" = false from by decide]; simp [tysR]
theorem isi_tup_bool {xs : List D} : r_isinstance K [(.tup xs), .ty "bool"] G R = R (.bl false) G := by
  show ("bool" ∈ tysR ∧ R (.bl (L2.subB "tuple" "bool")) G) = _
  rw [show L2.subB "tuple" "bool" = false from by decide]; simp [tysR]
theorem isi_tup_str {xs : List D} : r_isinstance K [(.tup xs), .ty "str"] G R = R (.bl false) G := by
  show ("str" ∈ tysR ∧ R (.bl (L2.subB "tuple" "str")) G) = _
  rw [show L2.subB "tuple" "str" = false from by decide]; simp [tysR]
theorem isi_tup_list {xs : List D} : r_isinstance K [(.tup xs), .ty "list"] G R = R (.bl false) G := by
  show ("list" ∈ tysR ∧ R (.bl (L2.subB "tuple" "list")) G) = _
  rw [show L2.subB "tuple" "list" = false from by decide]; simp [tysR]
theorem isi_tup_tuple {xs : List D} : r_isinstance K [(.tup xs), .ty "tuple"] G R = R (.bl true) G := by
  show ("tuple" ∈ tysR ∧ R (.bl (L2.subB "tuple" "tuple")) G) = _
  rw [show L2.subB "tuple" "tuple" = true from by decide]; simp [tysR]
theorem isi_tup_dict {xs : List D} : r_isinstance K [(.tup xs), .ty "dict"] G R = R (.bl false) G := by
  show ("dict" ∈ tysR ∧ R (.bl (L2.subB "tuple" "dict")) G) = _
  rw [show L2.subB "tuple" "dict" = false from by decide]; simp [tysR]
theorem isi_exn {q C C' : Addr} {b : Bool} (h : G q = some (.exn C)) (e : ExC K C) (k : PySem.W.kitOne K (.ref C) (.ref C') = some b) (z : R (.bl b) G) : r_isinstance K [.ref q, .ref C'] G R := by
  unfold r_isinstance
  simp only [exD, h]
  exact ⟨b, e, k, z⟩
end
theorem lsOf_lst {G : Gp} {p : Addr} {xs : List D} (h : G p = some (.lst xs)) : lsOf G p = some xs := by unfold lsOf; rw [h]
theorem lsOf_rol {G : Gp} {p : Addr} {xs : List D} (h : G p = some (.rol xs)) : lsOf G p = some xs := by unfold lsOf; rw [h]
theorem lsOf_upd {G : Gp} {p : Addr} {xs : List D} : lsOf (updG G p (.lst xs)) p = some xs := lsOf_lst updG_same
theorem iteBool {b : Bool} {P Q : Prop} (h1 : b = true → P) (h2 : b = false → Q) : if b = true then P else Q := by
  cases b
  · exact h2 rfl
  · exact h1 rfl
def kn (G : Gp) (d : D) : Prop := (tyD G d).isSome = true
theorem kn_ref {G : Gp} {q : Addr} (h : kn G (.ref q)) : tyD G (.ref q) = some "list" ∨ tyD G (.ref q) = some "dict" := by
  unfold kn at h
  have e : tyD G (.ref q) = (match G q with
    | some (.lst _) => some "list"
    | some (.rol _) => some "list"
    | some (.dic _ _) => some "dict"
    | _ => none) := rfl
  rw [e] at h ⊢
  split at h
  · exact .inl rfl
  · exact .inl rfl
  · exact .inr rfl
  · simp at h
section
variable {G : Gp} {R : VK3} {K : Fg} {q : Addr}
theorem isi_of {x : D} {T n : String} (e : tyD G x = some T) (hn : n ∈ tysR) : r_isinstance K [x, .ty n] G R = R (.bl (L2.subB T n)) G := by
  show (match tyD G x with
    | some T => n ∈ tysR ∧ R (.bl (L2.subB T n)) G
    | none => _) = _
  rw [e]
  exact propext ⟨fun h => h.2, fun h => ⟨hn, h⟩⟩
theorem isi_kn_int (h : kn G (.ref q)) : r_isinstance K [.ref q, .ty "int"] G R = R (.bl false) G := by
  rcases kn_ref h with e | e <;> rw [isi_of e (by decide)] <;> rfl
theorem isi_kn_tuple (h : kn G (.ref q)) : r_isinstance K [.ref q, .ty "tuple"] G R = R (.bl false) G := by
  rcases kn_ref h with e | e <;> rw [isi_of e (by decide)] <;> rfl
theorem at0 {α : Type} {a : α} {xs : List α} : atI (a :: xs) 0 = some a := by
  unfold atI ixN
  simp
theorem atS {α : Type} {a : α} {xs : List α} {n : Nat} : atI (a :: xs) ((n + 1 : Nat) : Int) = atI xs (n : Int) := by
  unfold atI ixN
  have h0 : (0 : Int) ≤ ((n + 1 : Nat) : Int) := by omega
  have h1 : (0 : Int) ≤ (n : Int) := by omega
  rw [if_pos h0, if_pos h1]
  by_cases h : n < xs.length
  · have a1 : ((n + 1 : Nat) : Int) < ((a :: xs).length : Int) := by simp; omega
    have a2 : (n : Int) < (xs.length : Int) := by omega
    rw [if_pos a1, if_pos a2]
    simp
  · have a1 : ¬ ((n + 1 : Nat) : Int) < ((a :: xs).length : Int) := by simp; omega
    have a2 : ¬ (n : Int) < (xs.length : Int) := by omega
    rw [if_neg a1, if_neg a2]
    rfl
theorem at_nat {α : Type} {xs : List α} {n : Nat} : atI xs (n : Int) = xs[n]? := by
  unfold atI ixN
  rw [if_pos (by omega)]
  by_cases h : n < xs.length
  · rw [if_pos (by omega)]; simp
  · rw [if_neg (by omega)]
    simp at h
    simp [h]
theorem x_ix_t0 {a : D} {xs : List D} : rIx3 (.tup (a :: xs)) (.int 0) G R = R a G := x_ix_t at0
theorem x_ix_t1 {a b : D} {xs : List D} : rIx3 (.tup (a :: b :: xs)) (.int 1) G R = R b G := x_ix_t (i := ((1 : Nat) : Int)) (by rw [atS, at_nat]; rfl)
theorem x_ix_t2 {a b c : D} {xs : List D} : rIx3 (.tup (a :: b :: c :: xs)) (.int 2) G R = R c G := x_ix_t (i := ((2 : Nat) : Int)) (by rw [atS, at_nat]; rfl)
theorem str_len {l : List Nat} : (⟨l.toArray⟩ : Str).length = l.length := by
  show l.toArray.size = l.length
  simp
end
section
variable {G : Gp} {R : VK3} {K : Fg} {q : Addr}
theorem x_add_s' {l m : List Nat} (h : l.length + m.length ≤ sizeLine) : rAdd3 (.str ⟨l.toArray⟩) (.str ⟨m.toArray⟩) G R = R (.str ⟨(l ++ m).toArray⟩) G := by
  show (_ ∧ R (.str (⟨l.toArray⟩ ++ ⟨m.toArray⟩)) G) = _
  have e : ((⟨l.toArray⟩ : Str) ++ (⟨m.toArray⟩ : Str)) = ⟨(l ++ m).toArray⟩ := by
    show (⟨l.toArray ++ m.toArray⟩ : Str) = _
    simp
  rw [e]
  exact propext ⟨fun h => h.2, fun z => ⟨by rw [str_len, str_len]; exact h, z⟩⟩
end
section
variable {G : Gp} {R : VK3} {K : Fg}
theorem ne_ref_lst {a b : Addr} {xs ys : List D} (h1 : lsOf G a = some xs) (h2 : lsOf G b = some ys) (s1 : xs.all (shal 20) = true) (s2 : ys.all (shal 20) = true) : rNe3 (.ref a) (.ref b) G R = R (.bl (!eqPs xs ys)) G := by
  show eqG G (.ref a) (.ref b) (fun b => R (.bl (!b)) G) = _
  unfold eqG
  simp only [h1, h2, s1, s2, true_and]
end
section
variable {G : Gp} {R : VK3} {K : Fg} {i j : Int}
theorem x_mulL (h : -18446744073709551616 < i ∧ i < 18446744073709551616) : rMul3 (.int i) (.int j) G R = R (.int (i * j)) G := by
  rw [x_mul]
  exact propext ⟨fun z => z.2, fun z => ⟨.inl ⟨by have := h.1; omega, by have := h.2; omega⟩, z⟩⟩
theorem x_mulR (h : -18446744073709551616 < j ∧ j < 18446744073709551616) : rMul3 (.int i) (.int j) G R = R (.int (i * j)) G := by
  rw [x_mul]
  exact propext ⟨fun z => z.2, fun z => ⟨.inr ⟨by have := h.1; omega, by have := h.2; omega⟩, z⟩⟩
theorem x_fdiv' (h : 0 < j ∧ j < 1073741824) : rFdiv3 (.int i) (.int j) G R = R (.int (i / j)) G := by
  rw [x_fdiv]
  exact propext ⟨fun z => z.2, fun z => ⟨h, z⟩⟩
theorem x_mod' (h : 0 < j) : rMod3 (.int i) (.int j) G R = R (.int (i % j)) G := by
  rw [x_mod]
  exact propext ⟨fun z => z.2, fun z => ⟨h, z⟩⟩
theorem x_pow' (h : 0 ≤ j ∧ j ≤ 1000000 ∧ i.natAbs < 18446744073709551616) : rPow3 (.int i) (.int j) G R = R (.int (i ^ j.toNat)) G := by
  rw [x_pow]
  exact propext ⟨fun z => z.2, fun z => ⟨⟨h.1, h.2.1, h.2.2⟩, z⟩⟩
end
section
variable {G : Gp} {R : VK3} {K : Fg} {i j : Int}
theorem atI_some {α : Type} {xs : List α} {i : Int} (h0 : 0 ≤ i) (h1 : i < (xs.length : Int)) : ∃ d, atI xs i = some d ∧ d ∈ xs := by
  obtain ⟨n, rfl⟩ := Int.eq_ofNat_of_zero_le h0
  have hn : n < xs.length := by omega
  exact ⟨xs[n], by rw [at_nat]; simp [hn], List.getElem_mem hn⟩
theorem ix_any {p : Addr} {xs : List D} (e : lsOf G p = some xs) (h0 : 0 ≤ i) (h1 : i < (xs.length : Int)) (h : ∀ d ∈ xs, R d G) : rIx3 (.ref p) (.int i) G R := by
  obtain ⟨d, h2, h3⟩ := atI_some h0 h1
  rw [x_ix_r e h2]
  exact h d h3
/-- of a written list, whatever the place -/
theorem ix_new {p : Addr} {xs : List D} {m : Int} (hm : m = (xs.length : Int)) (h0 : 0 < m) (h : ∀ d ∈ xs, R d (updG G p (.lst xs))) : rIx3 (.ref p) (.int (j % m)) (updG G p (.lst xs)) R := by
  refine ix_any lsOf_upd (Int.emod_nonneg _ (by omega)) ?_ h
  have := Int.emod_lt_of_pos j h0
  omega
theorem all_nil {P : D → Prop} : ∀ d ∈ ([] : List D), P d := fun _ h => by simp at h
theorem all_cons {P : D → Prop} {a : D} {r : List D} (h1 : P a) (h2 : ∀ d ∈ r, P d) : ∀ d ∈ a :: r, P d := fun d h => by
  rcases List.mem_cons.mp h with rfl | h
  · exact h1
  · exact h2 d h
end
def forK (i : Nat) (x : D) (tb : TS3) (F : Ends3) (ρ : St3) (G1 : Gp) : Prop := match x with
  | .ref p => (match lsOf G1 p with
    | some xs => ∃ P : Nat → St3 → Gp → Prop, P 0 ρ G1 ∧ (∀ k ρ G, k ≤ xs.length → P k ρ G → lsOf G p = some xs) ∧
        (∀ k d ρ G, xs[k]? = some d → P k ρ G → tb { F with nx := P (k + 1), ct := P (k + 1), bk := F.nx } (set3 ρ i d) G) ∧ ∀ ρ G, P xs.length ρ G → F.nx ρ G
    | none => False)
  | _ => False
theorem x_for {i : Nat} {te : TE3} {tb : TS3} {F : Ends3} {ρ : St3} {G : Gp} : tFor3 i te tb F ρ G = te ρ G fun x G1 => forK i x tb F ρ G1 := rfl
def forRK (i : Nat) (xs : List D) (tb : TS3) (F : Ends3) (ρ : St3) (G1 : Gp) : Prop := match xs with
  | [.int j] => -(2 ^ 62) ≤ j ∧ j < 2 ^ 62 ∧ ∃ P : Nat → St3 → Gp → Prop, P 0 ρ G1 ∧ (∀ k ρ G, k < j.toNat → P k ρ G → tb { F with nx := P (k + 1), ct := P (k + 1), bk := F.nx } (set3 ρ i (.int k)) G) ∧ ∀ ρ G, P j.toNat ρ G → F.nx ρ G
  | _ => False
theorem x_forR {i : Nat} {ta : TA3} {tb : TS3} {F : Ends3} {ρ : St3} {G : Gp} : tForR3 i ta tb F ρ G = ta ρ G fun xs G1 => forRK i xs tb F ρ G1 := rfl
section
variable {P Q : Prop} {b c : Bool} {α : Type} {a : α} {l : List α}
theorem s_true_and : (True ∧ P) = P := true_and P
theorem s_and_true : (P ∧ True) = P := and_true P
theorem s_and_self : (P ∧ P) = P := and_self P
theorem s_or_true : (P ∨ True) = True := or_true P
theorem s_true_or : (True ∨ P) = True := true_or P
theorem s_not_true : (!true) = false := rfl
theorem s_not_false : (!false) = true := rfl
theorem s_not_eq : ((!b) = true) = (b = false) := by cases b <;> simp
theorem s_if_true : (if True then P else Q) = P := if_true ..
theorem s_if_false : (if False then P else Q) = Q := if_false ..
theorem s_bft : (false = true) = False := by simp
theorem s_btf : (true = false) = False := by simp
theorem s_self : (b = b) = True := by simp
theorem s_len_cons : (a :: l).length = l.length + 1 := List.length_cons
theorem s_len_nil : ([] : List α).length = 0 := rfl
theorem s_len_map {β : Type} {f : α → β} : (l.map f).length = l.length := List.length_map ..
end
end L5
set_option Elab.async false
set_option linter.all false
set_option maxRecDepth 100000
set_option maxHeartbeats 4000000
namespace L6
open PySem PySem.Spec PyProof.Rows L2 L4 L5
/-! ### sources, comprehensions, loops: equations and rules -/
def srcK (x : D) (G : Gp) (Q : Src → Gp → Prop) : Prop := match x with
  | .ref p => (match lsOf G p with
    | some xs => Q (.lst p xs) G
    | none => False)
  | .tup xs => Q (.imm xs) G
  | .str z => Q (.imm (signs z)) G
  | _ => False
def srcSK (x : D) (G : Gp) (Q : Src → Gp → Prop) : Prop := match x with
  | .ref p => (match lsOf G p with
    | some xs => Q (.lst p xs) G
    | none => False)
  | .str z => Q (.imm (signs z)) G
  | _ => False
def rng1K (xs : List D) (G : Gp) (Q : Src → Gp → Prop) : Prop := match xs with
  | [.int j] => -(2 ^ 62) ≤ j ∧ j < 2 ^ 62 ∧ Q (.imm (rngD 0 j)) G
  | _ => False
def rng2K (xs : List D) (G : Gp) (Q : Src → Gp → Prop) : Prop := match xs with
  | [.int i, .int j] => (-(2 ^ 62) ≤ i ∧ i < 2 ^ 62 ∧ -(2 ^ 62) ≤ j ∧ j < 2 ^ 62) ∧ Q (.imm (rngD i j)) G
  | _ => False
def zipK (xs : List D) (G : Gp) (Q : Src → Gp → Prop) : Prop := match xs with
  | [.ref p, .ref q] => (match lsOf G p, lsOf G q with
    | some xs, some ys => Q (.zip p q xs ys) G
    | _, _ => False)
  | _ => False
theorem x_maxD {te td : TE3} {ρ : St3} {G : Gp} {R : VK3} : tMaxD te td ρ G R = te ρ G fun x G1 => td ρ G1 fun d G2 => r_maxD x d G2 R := rfl
section
variable {te : TE3} {ta : TA3} {ρ : St3} {G : Gp} {Q : Src → Gp → Prop} {p : Addr} {xs : List D} {z : Str} {i j : Int}
theorem x_tiAny : tiAny3 te ρ G Q = te ρ G fun x G1 => srcK x G1 Q := rfl
theorem x_tiS : tiS3 te ρ G Q = te ρ G fun x G1 => srcSK x G1 Q := rfl
theorem x_rng1 : tiRng1 ta ρ G Q = ta ρ G fun xs G1 => rng1K xs G1 Q := rfl
theorem x_zip : tiZip ta ρ G Q = ta ρ G fun xs G1 => zipK xs G1 Q := rfl
theorem x_rng2 : tiRng2 ta ρ G Q = ta ρ G fun xs G1 => rng2K xs G1 Q := rfl
theorem srcK_ref (h : lsOf G p = some xs) : srcK (.ref p) G Q = Q (.lst p xs) G := by unfold srcK; simp only [h]
theorem srcK_tup : srcK (.tup xs) G Q = Q (.imm xs) G := rfl
theorem srcK_str : srcK (.str z) G Q = Q (.imm (signs z)) G := rfl
theorem srcSK_ref (h : lsOf G p = some xs) : srcSK (.ref p) G Q = Q (.lst p xs) G := by unfold srcSK; simp only [h]
theorem srcSK_str : srcSK (.str z) G Q = Q (.imm (signs z)) G := rfl
theorem rng1K_i (h : -4611686018427387904 ≤ j ∧ j < 4611686018427387904) : rng1K [.int j] G Q = Q (.imm (rngD 0 j)) G := by
  show (_ ∧ _ ∧ _) = _
  exact propext ⟨fun z => z.2.2, fun z => ⟨by omega, by omega, z⟩⟩
theorem rng2K_i (h : -4611686018427387904 ≤ i ∧ i < 4611686018427387904 ∧ -4611686018427387904 ≤ j ∧ j < 4611686018427387904) : rng2K [.int i, .int j] G Q = Q (.imm (rngD i j)) G := by
  show ((_ ∧ _ ∧ _ ∧ _) ∧ _) = _
  exact propext ⟨fun z => z.2, fun z => ⟨⟨by omega, by omega, by omega, by omega⟩, z⟩⟩
end
def compK (dv : D → Option (List D)) (src : Src) (tc : TT3) (te : TE3) (ρ : St3) (G1 : Gp) (R : VK3) : Prop := src.items.length < sizeLine ∧ ∀ p, G1 p = none → ∃ P : Nat → List D → Gp → Prop, P 0 [] (updG G1 p (.lst [])) ∧
  (∀ k ds G, k ≤ src.items.length → P k ds G → src.ok G ∧ G p = some (.lst ds) ∧ ds.length ≤ k) ∧
  (∀ k d ds G, src.items[k]? = some d → P k ds G → ∃ ys, dv d = some ys ∧ tc (ys.map some ++ ρ) G fun b G2 => if b = true then te (ys.map some ++ ρ) G2 fun y G3 => G3 p = some (.lst ds) ∧ P (k + 1) (ds ++ [y]) (updG G3 p (.lst (ds ++ [y]))) else P (k + 1) ds G2) ∧
  ∀ ds G, P src.items.length ds G → ∃ G0, Le G0 G ∧ R (.ref p) G0
theorem x_comp {dv : D → Option (List D)} {ti : TI3} {tc : TT3} {te : TE3} {ρ : St3} {G : Gp} {R : VK3} : tCompG3 dv ti tc te ρ G R = ti ρ G fun src G1 => compK dv src tc te ρ G1 R := rfl
theorem lsOf_le {G G' : Gp} (l : Le G G') {p : Addr} {xs : List D} (h : lsOf G p = some xs) : lsOf G' p = some xs := by
  unfold lsOf at h ⊢
  split at h
  · rename_i e; rw [l _ _ e]; exact h
  · rename_i e; rw [l _ _ e]; exact h
  · cases h
theorem ok_le {G G' : Gp} (l : Le G G') {src : Src} (h : src.ok G) : src.ok G' := by
  cases src with
  | lst p xs => exact lsOf_le l h
  | imm xs => trivial
  | zip p q xs ys => exact ⟨lsOf_le l h.1, lsOf_le l h.2⟩
theorem le_upd {G G' : Gp} {p : Addr} {o o' : GO} (l : Le (updG G p o) G') : Le (updG G p o') (updG G' p o') := fun a u e => by
  by_cases h : a = p
  · subst h; rw [updG_same] at e ⊢; exact e
  · rw [updG_ne h] at e ⊢
    exact l a u (by rw [updG_ne h]; exact e)
/-- a comprehension whose test and element are told by functions; what they make is forgotten -/
theorem comp_fmG {dv : D → Option (List D)} {src : Src} {tc : TT3} {te : TE3} {ρ : St3} {G : Gp} {R : VK3} (v : D → List D) (c : D → Bool) (f : D → D) (hl : src.items.length < sizeLine) (hok : src.ok G) (hv : ∀ d ∈ src.items, dv d = some (v d))
    (hc : ∀ d ∈ src.items, ∀ G', Le G G' → ∀ Q : Bool → Gp → Prop, (∀ G'', Le G' G'' → Q (c d) G'') → tc ((v d).map some ++ ρ) G' Q)
    (he : ∀ d ∈ src.items, c d = true → ∀ G', Le G G' → ∀ Q : D → Gp → Prop, (∀ G'', Le G' G'' → Q (f d) G'') → te ((v d).map some ++ ρ) G' Q)
    (h : ∀ p, G p = none → R (.ref p) (updG G p (.lst ((src.items.filter c).map f)))) : compK dv src tc te ρ G R := by
  refine ⟨hl, fun p hp => ⟨fun k ds G' => ds = ((src.items.take k).filter c).map f ∧ Le (updG G p (.lst ds)) G', ⟨rfl, .refl _⟩, fun k ds G' hk ⟨e, l⟩ => ?_, fun k d ds G' hd ⟨e, l⟩ => ?_, fun ds G' ⟨e, l⟩ => ?_⟩⟩
  · refine ⟨ok_le ((Le.new hp).trans l) hok, l p _ updG_same, ?_⟩
    rw [e, List.length_map]
    exact Nat.le_trans (List.length_filter_le _ _) (by rw [List.length_take]; omega)
  · have hm : d ∈ src.items := List.mem_of_getElem? hd
    have ht : src.items.take (k + 1) = src.items.take k ++ [d] := by
      rw [List.take_succ, hd]; rfl
    refine ⟨v d, hv d hm, hc d hm G' ((Le.new hp).trans l) _ fun G2 l2 => ?_⟩
    cases hcd : c d with
    | true =>
      rw [if_pos rfl]
      refine he d hm hcd G2 (((Le.new hp).trans l).trans l2) _ fun G3 l3 => ?_
      have l4 := (l.trans l2).trans l3
      refine ⟨l4 p _ updG_same, ?_, le_upd l4⟩
      rw [ht, List.filter_append, List.map_append, ← e]
      simp [hcd]
    | false =>
      rw [if_neg (by decide)]
      refine ⟨?_, l.trans l2⟩
      rw [ht, List.filter_append, List.map_append, ← e]
      simp [hcd]
  · rw [List.take_length] at e
    subst e
    exact ⟨_, l, h p hp⟩
theorem comp_fm {src : Src} {tc : TT3} {te : TE3} {ρ : St3} {G : Gp} {R : VK3} (c : D → Bool) (f : D → D) (hl : src.items.length < sizeLine) (hok : src.ok G)
    (hc : ∀ d ∈ src.items, ∀ G', Le G G' → ∀ Q : Bool → Gp → Prop, (∀ G'', Le G' G'' → Q (c d) G'') → tc (some d :: ρ) G' Q)
    (he : ∀ d ∈ src.items, c d = true → ∀ G', Le G G' → ∀ Q : D → Gp → Prop, (∀ G'', Le G' G'' → Q (f d) G'') → te (some d :: ρ) G' Q)
    (h : ∀ p, G p = none → R (.ref p) (updG G p (.lst ((src.items.filter c).map f)))) : compK oneV src tc te ρ G R := comp_fmG (fun d => [d]) c f hl hok (fun _ _ => rfl) hc he h
theorem comp_map {src : Src} {te : TE3} {ρ : St3} {G : Gp} {R : VK3} (f : D → D) (hl : src.items.length < sizeLine) (hok : src.ok G)
    (he : ∀ d ∈ src.items, ∀ G', Le G G' → ∀ Q : D → Gp → Prop, (∀ G'', Le G' G'' → Q (f d) G'') → te (some d :: ρ) G' Q)
    (h : ∀ p, G p = none → R (.ref p) (updG G p (.lst (src.items.map f)))) : compK oneV src tTrue3 te ρ G R :=
  comp_fm (fun _ => true) f hl hok (fun d _ G' _ Q h => h G' (.refl _)) (fun d hd _ => he d hd) fun p hp => by
    have : src.items.filter (fun _ => true) = src.items := List.filter_eq_self.mpr fun _ _ => rfl
    rw [this]
    exact h p hp
def forGK (src : Src) (tg : TG3) (tb : TS3) (F : Ends3) (ρ : St3) (G1 : Gp) : Prop := ∃ P : Nat → St3 → Gp → Prop, P 0 ρ G1 ∧ (∀ k ρ G, k ≤ src.items.length → P k ρ G → src.ok G) ∧
  (∀ k d ρ G, src.items[k]? = some d → P k ρ G → tg d ρ fun ρ2 => tb { F with nx := P (k + 1), ct := P (k + 1), bk := F.nx } ρ2 G) ∧ ∀ ρ G, P src.items.length ρ G → F.nx ρ G
theorem x_forG {ti : TI3} {tg : TG3} {tb : TS3} {F : Ends3} {ρ : St3} {G : Gp} : tForG3 ti tg tb F ρ G = ti ρ G fun src G1 => forGK src tg tb F ρ G1 := rfl
theorem x_gName {i : Nat} {d : D} {ρ : St3} {Q : St3 → Prop} : gName3 i d ρ Q = Q (set3 ρ i d) := rfl
theorem x_gTup {is : List Nat} {ds : List D} {ρ : St3} {Q : St3 → Prop} (h : ds.length = is.length) : gTup3 is (.tup ds) ρ Q = Q (sets3 ρ is ds) := propext ⟨fun z => z.2, fun z => ⟨h, z⟩⟩
theorem x_sets0 {is : List Nat} {ρ : St3} : sets3 ρ is [] = ρ := by cases is <;> rfl
theorem x_setsS {i : Nat} {is : List Nat} {d : D} {ds : List D} {ρ : St3} : sets3 ρ (i :: is) (d :: ds) = sets3 (set3 ρ i d) is ds := rfl
/-- a loop over a range from nought, by a word on the turn -/
theorem forG_rng {tg : TG3} {tb : TS3} {F : Ends3} {ρ : St3} {G : Gp} {j : Int} (P : Nat → St3 → Gp → Prop) (h0 : P 0 ρ G)
    (hb : ∀ (k : Nat) ρ G, (k : Int) < j → P k ρ G → tg (.int k) ρ fun ρ2 => tb { F with nx := P (k + 1), ct := P (k + 1), bk := F.nx } ρ2 G) (he : ∀ ρ G, P j.toNat ρ G → F.nx ρ G) : forGK (.imm (rngD 0 j)) tg tb F ρ G := by
  have hlen : (Src.imm (rngD 0 j)).items.length = j.toNat := by simp [Src.items, rngD]
  refine ⟨P, h0, fun _ _ _ _ _ => trivial, fun k d ρ G hd p => ?_, fun ρ G p => he ρ G (hlen ▸ p)⟩
  have hk : k < j.toNat := by rw [← hlen]; exact (List.getElem?_eq_some_iff.mp hd).1
  have e : d = .int k := by
    have : (rngD 0 j)[k]? = some d := hd
    unfold rngD at this
    rw [List.getElem?_map, List.getElem?_range (by omega)] at this
    simp at this
    exact this.symm
  subst e
  exact hb k ρ G (by omega) p
/-- a loop over a list that stays -/
theorem forG_lst {tg : TG3} {tb : TS3} {F : Ends3} {ρ : St3} {G : Gp} {q : Addr} {xs : List D} (P : Nat → St3 → Gp → Prop) (h0 : P 0 ρ G) (hs : ∀ k ρ G, P k ρ G → lsOf G q = some xs)
    (hb : ∀ k d ρ G, xs[k]? = some d → P k ρ G → tg d ρ fun ρ2 => tb { F with nx := P (k + 1), ct := P (k + 1), bk := F.nx } ρ2 G) (he : ∀ ρ G, P xs.length ρ G → F.nx ρ G) : forGK (.lst q xs) tg tb F ρ G :=
  ⟨P, h0, fun k ρ G _ p => hs k ρ G p, hb, he⟩
section
variable {G : Gp} {R : VK3}
theorem x_min {i j : Int} : r_min' [.int i, .int j] G R = R (.int (if j < i then j else i)) G := rfl
theorem x_max {i j : Int} : r_max' [.int i, .int j] G R = R (.int (if i < j then j else i)) G := rfl
theorem x_append {p : Addr} {ds : List D} {d : D} (h : G p = some (.lst ds)) (hl : ds.length < sizeLine) : r_append (.ref p) [d] G R = R .non (updG G p (.lst (ds ++ [d]))) := by
  unfold r_append
  simp only [h, hl, true_and]
theorem x_list_r {q : Addr} {ds : List D} (h : lsOf G q = some ds) : r_list [.ref q] G R = ∀ l, G l = none → R (.ref l) (updG G l (.lst ds)) := by
  unfold r_list
  simp only [h]
theorem x_list_t {ds : List D} : r_list [.tup ds] G R = ∀ l, G l = none → R (.ref l) (updG G l (.lst ds)) := rfl
end
theorem len_app {x y : Str} : (x ++ y).length = x.length + y.length := by
  show (x.cps ++ y.cps).size = x.cps.size + y.cps.size
  simp
theorem x_add_ss' {G : Gp} {R : VK3} {i j : Str} (h : i.length + j.length ≤ sizeLine) : rAdd3 (.str i) (.str j) G R = R (.str (i ++ j)) G := by
  rw [x_add_ss]
  exact propext ⟨fun z => z.2, fun z => ⟨h, z⟩⟩
def setLK (o i v : D) (F : Ends3) (ρ : St3) (G3 : Gp) : Prop := match o, i with
  | .ref p, .int k => (match G3 p with
    | some (.lst xs) => (match ixN xs.length k with
      | some j => F.nx ρ (updG G3 p (.lst (xs.set j v)))
      | none => False)
    | _ => False)
  | _, _ => False
def sgD (c : Nat) : D := .str ⟨#[c]⟩
section
variable {G : Gp} {R : VK3} {F : Ends3} {ρ : St3}
theorem x_setT {is : List Nat} {te : TE3} : tSetT3 is te F ρ G = te ρ G fun d G1 => gTup3 is d ρ fun ρ2 => F.nx ρ2 G1 := rfl
theorem x_aug {i : Nat} {f : Int → Int → Int} {te : TE3} : tAug3 i f te F ρ G = tVar3 i ρ G fun x G0 => onN x fun a => te ρ G0 fun y G1 => onN y fun b => F.nx (set3 ρ i (.int (f a b))) G1 := rfl
theorem x_onN {k : Int} {f : Int → Prop} : onN (.int k) f = f k := rfl
theorem x_augF0 {a b : Int} : augF false a b = a + b := rfl
theorem x_augF1 {a b : Int} : augF true a b = a - b := rfl
theorem x_while {c : TT3} {tb : TS3} : tWhile3 c tb F ρ G = ∃ W : Nat → St3 → Gp → Prop, (∃ m, W m ρ G) ∧ ∀ m ρ G, W m ρ G → c ρ G fun b G1 => if b = true then tb { F with nx := fun ρ' G' => ∃ m', m' < m ∧ W m' ρ' G', ct := fun ρ' G' => ∃ m', m' < m ∧ W m' ρ' G', bk := F.nx } ρ G1 else F.nx ρ G1 := rfl
theorem x_eqD_t {xs ys : List D} : rEqD3 (.tup xs) (.tup ys) G R = (ok2s G xs ys = true ∧ R (.bl (eq2s G xs ys)) G) := rfl
theorem x_neD_t {xs ys : List D} : rNeD3 (.tup xs) (.tup ys) G R = (ok2s G xs ys = true ∧ R (.bl (!eq2s G xs ys)) G) := rfl
theorem x_exc {C : Addr} {t : TA3} : tExc3 C t ρ G R = t ρ G fun ds G1 => ds.length ≤ sizeLine ∧ ∀ x, G1 x = none → R (.ref x) (updG G1 x (.exn C)) := rfl
end
end L6
set_option Elab.async false
set_option linter.all false
set_option maxRecDepth 100000
set_option maxHeartbeats 4000000
namespace L7
open PySem PySem.Spec PyProof.Rows L2 L4 L5 L6
/-! ### range by steps, lists turned about, dicts that are sets of pairs -/
section
variable {ρ : St3} {G : Gp} {R : VK3} {F : Ends3} {p : Addr}
theorem x_rng3 {ta : TA3} {Q : Src → Gp → Prop} : tiRng3 ta ρ G Q = ta ρ G fun xs G1 => rng3K xs G1 Q := rfl
theorem x_rev {te : TE3} {tk : TO3} : tRev3 te tk ρ G R = te ρ G fun x G1 => tk ρ G1 fun o G2 => o = some (-1) ∧ rRev3 x G2 R := rfl
theorem x_hid {i : Nat} {t : TS3} : tHid3 i t F ρ G = t { nx := fun ρ G => F.nx (clr3 ρ i) G, rt := F.rt, bk := fun ρ G => F.bk (clr3 ρ i) G, ct := fun ρ G => F.ct (clr3 ρ i) G } (clr3 ρ i) G := rfl
theorem x_dctT : tDNewT3 ρ G R = ∀ p, G p = none → R (.ref p) (updG G p (.dic true [])) := rfl
theorem x_setD {to ti tv : TE3} : tSetD3 to ti tv F ρ G = tv ρ G fun v G1 => to ρ G1 fun x G2 => ti ρ G2 fun y G3 => sDicK x y v F ρ G3 := rfl
abbrev prK (q : Int × Int) : DK := .inr [.inl q.1, .inl q.2]
def ent (q : Int × Int) : DK × D := (prK q, .bl true)
/-- the dict that has these pairs, each with True -/
def setG (M : List (Int × Int)) : GO := .dic true (M.map ent)
def addP (M : List (Int × Int)) (q : Int × Int) : List (Int × Int) := if q ∈ M then M else M ++ [q]
end
end L7
set_option Elab.async false
set_option linter.all false
set_option maxRecDepth 100000
set_option maxHeartbeats 4000000
namespace L8
open PySem PySem.Spec PyProof.Rows L2 L4 L5 L6 L7
/-! ### own classes, dicts by their keys: equations -/
section
variable {ρ : St3} {G : Gp} {R : VK3} {F : Ends3} {p C : Addr} {f m : Str} {fs : List (Str × D)}
end
end L8
set_option Elab.async false
set_option linter.all false
set_option maxRecDepth 100000
set_option maxHeartbeats 4000000
namespace Law
open PySem PySem.Spec PyProof.Rows L2 L4
def top (i : Nat) : Stmt := PySem.Challenge.pw_depot_k82_rows_as_text.main.body.getD i (.Pass ⟨0, 0, 0, 0⟩)
abbrev s_is_whole : Stmt := top 8
abbrev s_is_pair : Stmt := top 9
abbrev s_bin_name : Stmt := top 10
abbrev s_number_text : Stmt := top 12
abbrev s_thing_text : Stmt := top 13
abbrev s_row_text : Stmt := top 14
abbrev s_rows_text : Stmt := top 15
abbrev s__law_cell_at : Stmt := top 17
abbrev s__law_mix : Stmt := top 18
abbrev s__law_name : Stmt := top 19
abbrev s__law_thing : Stmt := top 20
abbrev s__law_line : Stmt := top 21
abbrev s_law : Stmt := top 22
structure Adr where
  a_is_whole : Addr
  d_is_whole : FuncData
  a_is_pair : Addr
  d_is_pair : FuncData
  a_bin_name : Addr
  d_bin_name : FuncData
  a_number_text : Addr
  d_number_text : FuncData
  a_thing_text : Addr
  d_thing_text : FuncData
  a_row_text : Addr
  d_row_text : FuncData
  a_rows_text : Addr
  d_rows_text : FuncData
  a__law_cell_at : Addr
  d__law_cell_at : FuncData
  a__law_mix : Addr
  d__law_mix : FuncData
  a__law_name : Addr
  d__law_name : FuncData
  a__law_thing : Addr
  d__law_thing : FuncData
  a__law_line : Addr
  d__law_line : FuncData
  a_law : Addr
  d_law : FuncData
  c_DepotError : Addr
  c_NoBin : Addr
def t_is_whole (K : Fg) (A : Adr) (ex : St3 → EXK) : TS3 :=
    (tRet3 (tAndV3 (tCB3 (r_isinstance K) (tCons3 (tVar3 0) (tCons3 (tC3 (.ty "int")) tNil3))) (tAndV3 (tNotV3 (tCB3 (r_isinstance K) (tCons3 (tVar3 0) (tCons3 (tC3 (.ty "bool")) tNil3)))) (tChain3 rLe3 rLe3 (tVar3 1) (tVar3 0) (tVar3 2)))))
def sp_is_whole (K : Fg) (A : Adr) : Sp3 := spD 3 3 fun EX => t_is_whole K A (fun _ => EX)
def c_is_whole : CB := (.cons (.ret (.andv (.cons (.call 1 (.cons (.var 0) (.cons (.glo 0) .nil))) (.cons (.notv (.call 1 (.cons (.var 0) (.cons (.glo 2) .nil)))) (.cons (.chain .LtE .LtE (.var 1) (.var 0) (.var 2)) .nil))))) .nil)
def S_is_whole (K : Fg) (A : Adr) : SI := ⟨["thing", "least", "most"], [true, true, true], [true, true, true], [false, false, false], [("int", .bt "int"), ("isinstance", .bf .isi), ("bool", .bt "bool")], [true, true, true], true⟩
def t_is_pair_2 (K : Fg) (A : Adr) (ex : St3 → EXK) : TS3 :=
    (tRet3 (tAndV3 (tCallX (sp_is_whole K A) ex (tCons3 (tOp3 rIx3 (tVar3 0) (tC3 (.int 0))) (tCons3 (tC3 (.int 0)) (tCons3 (tOp3 rSub3 (tVar3 1) (tC3 (.int 1))) tNil3)))) (tCallX (sp_is_whole K A) ex (tCons3 (tOp3 rIx3 (tVar3 0) (tC3 (.int 1))) (tCons3 (tVar3 2) (tCons3 (tVar3 3) tNil3))))))
def t_is_pair (K : Fg) (A : Adr) (ex : St3 → EXK) : TS3 :=
    tSeq3 (tIfS3 (tOr3 (tNot3 (tTest3 (tCB3 (r_isinstance K) (tCons3 (tVar3 0) (tCons3 (tC3 (.ty "tuple")) tNil3))))) (tTest3 (tOp3 rNe3 (tCB3 r_len (tCons3 (tVar3 0) tNil3)) (tC3 (.int 2))))) (tRet3 (tC3 (.bl false))) tNext3) (t_is_pair_2 K A ex)
def sp_is_pair (K : Fg) (A : Adr) : Sp3 := spD 4 4 fun EX => t_is_pair K A (fun _ => EX)
def c_is_pair : CB := (.cons (.ifs (.or (.cons (.not (.val (.call 1 (.cons (.var 0) (.cons (.glo 0) .nil))))) (.cons (.cmp .NotEq (.call 2 (.cons (.var 0) .nil)) (.con (.int 2))) .nil))) (.cons (.ret (.con (.bl false))) .nil) .nil) (.cons (.ret (.andv (.cons (.call 3 (.cons (.ix (.var 0) (.con (.int 0))) (.cons (.con (.int 0)) (.cons (.bin .Sub (.var 1) (.con (.int 1))) .nil)))) (.cons (.call 3 (.cons (.ix (.var 0) (.con (.int 1))) (.cons (.var 2) (.cons (.var 3) .nil)))) .nil)))) .nil))
def S_is_pair (K : Fg) (A : Adr) : SI := ⟨["thing", "aisles", "first", "last"], [true, true, true, true], [true, true, true, true], [false, false, false, false], [("tuple", .bt "tuple"), ("isinstance", .bf .isi), ("len", .bf .len), ("is_whole", .fn (sp_is_whole K A) 3 false)], [true, true, true, true], true⟩
def t_bin_name_2 (K : Fg) (A : Adr) (ex : St3 → EXK) : TS3 :=
    (tRet3 (tOp3 rAdd3 (tOp3 rAdd3 (tOp3 rIx3 (tC3 (.str "ABCDEFGHIJKLMNOPQRSTUVWXYZ")) (tOp3 rIx3 (tVar3 0) (tC3 (.int 0)))) (tOp3 rIx3 (tC3 (.str "0123456789")) (tOp3 rFdiv3 (tOp3 rIx3 (tVar3 0) (tC3 (.int 1))) (tC3 (.int 10))))) (tOp3 rIx3 (tC3 (.str "0123456789")) (tOp3 rMod3 (tOp3 rIx3 (tVar3 0) (tC3 (.int 1))) (tC3 (.int 10))))))
def t_bin_name (K : Fg) (A : Adr) (ex : St3 → EXK) : TS3 :=
    tSeq3 (tIfS3 (tNot3 (tTest3 (tCallX (sp_is_pair K A) ex (tCons3 (tVar3 0) (tCons3 (tC3 (.int 26)) (tCons3 (tC3 (.int 1)) (tCons3 (tC3 (.int 99)) tNil3))))))) (tRaise3 ex A.c_NoBin (tCons3 (tC3 (.str "a pair of an aisle from 0 to 25 and a place from 1 to 99 is wanted")) tNil3)) tNext3) (t_bin_name_2 K A ex)
def sp_bin_name (K : Fg) (A : Adr) : Sp3 := spD 1 1 fun EX => t_bin_name K A (fun _ => EX)
def c_bin_name : CB := (.cons (.ifs (.not (.val (.call 2 (.cons (.var 0) (.cons (.glo 0) (.cons (.con (.int 1)) (.cons (.glo 1) .nil))))))) (.cons (.raise 3 (.con (.str "a pair of an aisle from 0 to 25 and a place from 1 to 99 is wanted")) .nil) .nil) .nil) (.cons (.ret (.bin .Add (.bin .Add (.ix (.glo 4) (.ix (.var 0) (.con (.int 0)))) (.ix (.glo 5) (.bin .FloorDiv (.ix (.var 0) (.con (.int 1))) (.con (.int 10))))) (.ix (.glo 5) (.bin .Mod (.ix (.var 0) (.con (.int 1))) (.con (.int 10)))))) .nil))
def S_bin_name (K : Fg) (A : Adr) : SI := ⟨["spot"], [true], [true], [false], [("MOST_AISLES", .con (.int 26)), ("MOST_PLACES", .con (.int 99)), ("is_pair", .fn (sp_is_pair K A) 4 false), ("NoBin", .cls A.c_NoBin), ("LETTERS", .con (.str "ABCDEFGHIJKLMNOPQRSTUVWXYZ")), ("FIGURES", .con (.str "0123456789"))], [true, true, true, true, true, true], true⟩
def t_number_text_4b_2 (K : Fg) (A : Adr) (ex : St3 → EXK) : TS3 :=
    (tSet3 2 (tOp3 rFdiv3 (tVar3 2) (tVar3 1)))
def t_number_text_4b (K : Fg) (A : Adr) (ex : St3 → EXK) : TS3 :=
    tSeq3 (tDrop3 (tM3 "list" r_append (tVar3 3) (tCons3 bad3 tNil3))) (t_number_text_4b_2 K A ex)
def t_number_text_7 (K : Fg) (A : Adr) (ex : St3 → EXK) : TS3 :=
    (tRet3 (tJRev3 (tC3 (.str "")) (tVar3 3)))
def t_number_text_6 (K : Fg) (A : Adr) (ex : St3 → EXK) : TS3 :=
    tSeq3 (tIfS3 (tTest3 (tOp3 rLt3 (tVar3 0) (tC3 (.int 0)))) (tDrop3 (tM3 "list" r_append (tVar3 3) (tCons3 (tC3 (.str "-")) tNil3))) tNext3) (t_number_text_7 K A ex)
def t_number_text_5 (K : Fg) (A : Adr) (ex : St3 → EXK) : TS3 :=
    tSeq3 (tDrop3 (tM3 "list" r_append (tVar3 3) (tCons3 (tCB3 r_str (tCons3 (tVar3 2) tNil3)) tNil3))) (t_number_text_6 K A ex)
def t_number_text_4 (K : Fg) (A : Adr) (ex : St3 → EXK) : TS3 :=
    tSeq3 (tWhile3 (tTest3 (tOp3 rGe3 (tVar3 2) (tVar3 1))) (t_number_text_4b K A ex)) (t_number_text_5 K A ex)
def t_number_text_3 (K : Fg) (A : Adr) (ex : St3 → EXK) : TS3 :=
    tSeq3 (tSet3 3 (tLst3 tNil3)) (t_number_text_4 K A ex)
def t_number_text_2 (K : Fg) (A : Adr) (ex : St3 → EXK) : TS3 :=
    tSeq3 (tSet3 2 (tCB3 r_abs (tCons3 (tVar3 0) tNil3))) (t_number_text_3 K A ex)
def t_number_text (K : Fg) (A : Adr) (ex : St3 → EXK) : TS3 :=
    tSeq3 (tSet3 1 (tOp3 rPow3 (tC3 (.int 10)) (tC3 (.int 60)))) (t_number_text_2 K A ex)
def sp_number_text (K : Fg) (A : Adr) : Sp3 := spD 4 1 fun EX => t_number_text K A (fun _ => EX)
def c_number_text : CB := (.cons (.set 1 (.bin .Pow (.con (.int 10)) (.con (.int 60)))) (.cons (.set 2 (.call 0 (.cons (.var 0) .nil))) (.cons (.set 3 (.lst .nil)) (.cons (.whil (.cmp .GtE (.var 2) (.var 1)) (.cons (.expr (.meth .append (.var 3) (.cons .nev .nil))) (.cons (.set 2 (.bin .FloorDiv (.var 2) (.var 1))) .nil))) (.cons (.expr (.meth .append (.var 3) (.cons (.call 1 (.cons (.var 2) .nil)) .nil))) (.cons (.ifs (.cmp .Lt (.var 0) (.con (.int 0))) (.cons (.expr (.meth .append (.var 3) (.cons (.con (.str "-")) .nil))) .nil) .nil) (.cons (.ret (.jrev 2 (.con (.str "")) (.var 3))) .nil)))))))
def S_number_text (K : Fg) (A : Adr) : SI := ⟨["number", "step", "left", "parts"], [true, true, true, true], [true, true, true, true], [false, false, false, false], [("abs", .bf .abs), ("str", .bt "str"), ("reversed", .bt "reversed")], [true, true, true], true⟩
def t_thing_text_3 (K : Fg) (A : Adr) (ex : St3 → EXK) : TS3 :=
    (tRet3 (tVar3 0))
def t_thing_text_2 (K : Fg) (A : Adr) (ex : St3 → EXK) : TS3 :=
    tSeq3 (tIfS3 (tTest3 (tCB3 (r_isinstance K) (tCons3 (tVar3 0) (tCons3 (tC3 (.ty "int")) tNil3)))) (tRet3 (tCallX (sp_number_text K A) ex (tCons3 (tVar3 0) tNil3))) tNext3) (t_thing_text_3 K A ex)
def t_thing_text (K : Fg) (A : Adr) (ex : St3 → EXK) : TS3 :=
    tSeq3 (tIfS3 (tTest3 (tCB3 (r_isinstance K) (tCons3 (tVar3 0) (tCons3 (tC3 (.ty "tuple")) tNil3)))) (tRet3 (tCallX (sp_bin_name K A) ex (tCons3 (tVar3 0) tNil3))) tNext3) (t_thing_text_2 K A ex)
def sp_thing_text (K : Fg) (A : Adr) : Sp3 := spD 1 1 fun EX => t_thing_text K A (fun _ => EX)
def c_thing_text : CB := (.cons (.ifs (.val (.call 1 (.cons (.var 0) (.cons (.glo 0) .nil)))) (.cons (.ret (.call 2 (.cons (.var 0) .nil))) .nil) .nil) (.cons (.ifs (.val (.call 1 (.cons (.var 0) (.cons (.glo 3) .nil)))) (.cons (.ret (.call 4 (.cons (.var 0) .nil))) .nil) .nil) (.cons (.ret (.var 0)) .nil)))
def S_thing_text (K : Fg) (A : Adr) : SI := ⟨["thing"], [true], [true], [false], [("tuple", .bt "tuple"), ("isinstance", .bf .isi), ("bin_name", .fn (sp_bin_name K A) 1 false), ("int", .bt "int"), ("number_text", .fn (sp_number_text K A) 1 false)], [true, true, true, true, true], true⟩
def t_row_text (K : Fg) (A : Adr) (ex : St3 → EXK) : TS3 :=
    (tRet3 (tM3 "str" r_join (tC3 (.str " ")) (tCons3 (tComp3 (tiAny3 (tVar3 0)) tTrue3 (tCallX (sp_thing_text K A) NoX (tCons3 (tVar3 0) tNil3))) tNil3)))
def sp_row_text (K : Fg) (A : Adr) : Sp3 := spD 1 1 fun EX => t_row_text K A (fun _ => EX)
def c_row_text : CB := (.cons (.ret (.meth .join (.con (.str " ")) (.cons (.comp [false] [true] (.any (.var 0)) .none (.call 0 (.cons (.var 0) .nil))) .nil))) .nil)
def S_row_text (K : Fg) (A : Adr) : SI := ⟨["row"], [true], [true], [false], [("thing_text", .fn (sp_thing_text K A) 1 false)], [false], true⟩
def t_rows_text_2 (K : Fg) (A : Adr) (ex : St3 → EXK) : TS3 :=
    (tRet3 (tM3 "str" r_join (tC3 (.str "; ")) (tCons3 (tComp3 (tiAny3 (tVar3 0)) tTrue3 (tCallX (sp_row_text K A) NoX (tCons3 (tVar3 0) tNil3))) tNil3)))
def t_rows_text (K : Fg) (A : Adr) (ex : St3 → EXK) : TS3 :=
    tSeq3 (tIfS3 (tTest3 (tOp3 rEq3 (tCB3 r_len (tCons3 (tVar3 0) tNil3)) (tC3 (.int 0)))) (tRet3 (tC3 (.str "none"))) tNext3) (t_rows_text_2 K A ex)
def sp_rows_text (K : Fg) (A : Adr) : Sp3 := spD 1 1 fun EX => t_rows_text K A (fun _ => EX)
def c_rows_text : CB := (.cons (.ifs (.cmp .Eq (.call 0 (.cons (.var 0) .nil)) (.con (.int 0))) (.cons (.ret (.con (.str "none"))) .nil) .nil) (.cons (.ret (.meth .join (.con (.str "; ")) (.cons (.comp [false] [false, true] (.any (.var 0)) .none (.call 1 (.cons (.var 0) .nil))) .nil))) .nil))
def S_rows_text (K : Fg) (A : Adr) : SI := ⟨["rows"], [true], [true], [false], [("len", .bf .len), ("row_text", .fn (sp_row_text K A) 1 false)], [true, false], true⟩
def t__law_cell_at_4 (K : Fg) (A : Adr) (ex : St3 → EXK) : TS3 :=
    (tRet3 (tOp3 rMod3 (tOp3 rAdd3 (tOp3 rMul3 (tVar3 2) (tVar3 2)) (tOp3 rMul3 (tC3 (.int 48271)) (tVar3 1))) (tC3 (.int 2147483629))))
def t__law_cell_at_3 (K : Fg) (A : Adr) (ex : St3 → EXK) : TS3 :=
    tSeq3 (tSet3 2 (tOp3 rMod3 (tOp3 rAdd3 (tOp3 rMul3 (tOp3 rIx3 (tVar3 0) (tOp3 rMod3 (tVar3 1) (tCB3 r_len (tCons3 (tVar3 0) tNil3)))) (tC3 (.int 48271))) (tOp3 rMul3 (tVar3 1) (tC3 (.int 104729)))) (tC3 (.int 2147483647)))) (t__law_cell_at_4 K A ex)
def t__law_cell_at_2 (K : Fg) (A : Adr) (ex : St3 → EXK) : TS3 :=
    tSeq3 (tIfS3 (tTest3 (tOp3 rEq3 (tCB3 r_len (tCons3 (tVar3 0) tNil3)) (tC3 (.int 0)))) (tRet3 (tC3 (.int 0))) tNext3) (t__law_cell_at_3 K A ex)
def t__law_cell_at (K : Fg) (A : Adr) (ex : St3 → EXK) : TS3 :=
    tSeq3 (tIfS3 (tTest3 (tOp3 rLt3 (tVar3 1) (tCB3 r_len (tCons3 (tVar3 0) tNil3)))) (tRet3 (tOp3 rIx3 (tVar3 0) (tVar3 1))) tNext3) (t__law_cell_at_2 K A ex)
def sp__law_cell_at (K : Fg) (A : Adr) : Sp3 := spD 3 2 fun EX => t__law_cell_at K A (fun _ => EX)
def c__law_cell_at : CB := (.cons (.ifs (.cmp .Lt (.var 1) (.call 0 (.cons (.var 0) .nil))) (.cons (.ret (.ix (.var 0) (.var 1))) .nil) .nil) (.cons (.ifs (.cmp .Eq (.call 0 (.cons (.var 0) .nil)) (.con (.int 0))) (.cons (.ret (.con (.int 0))) .nil) .nil) (.cons (.set 2 (.bin .Mod (.bin .Add (.bin .Mult (.ix (.var 0) (.bin .Mod (.var 1) (.call 0 (.cons (.var 0) .nil)))) (.con (.int 48271))) (.bin .Mult (.var 1) (.con (.int 104729)))) (.con (.int 2147483647)))) (.cons (.ret (.bin .Mod (.bin .Add (.bin .Mult (.var 2) (.var 2)) (.bin .Mult (.con (.int 48271)) (.var 1))) (.con (.int 2147483629)))) .nil))))
def S__law_cell_at (K : Fg) (A : Adr) : SI := ⟨["_law_script", "_law_k", "_law_more"], [true, true, true], [true, true, true], [false, false, false], [("len", .bf .len)], [true], true⟩
def t__law_mix_2 (K : Fg) (A : Adr) (ex : St3 → EXK) : TS3 :=
    (tRet3 (tOp3 rMod3 (tOp3 rAdd3 (tOp3 rAdd3 (tOp3 rMul3 (tVar3 2) (tVar3 2)) (tOp3 rMul3 (tC3 (.int 48271)) (tVar3 1))) (tVar3 2)) (tC3 (.int 2147483629))))
def t__law_mix (K : Fg) (A : Adr) (ex : St3 → EXK) : TS3 :=
    tSeq3 (tSet3 2 (tOp3 rMod3 (tOp3 rAdd3 (tOp3 rAdd3 (tOp3 rMul3 (tVar3 0) (tC3 (.int 48271))) (tOp3 rMul3 (tVar3 1) (tC3 (.int 104729)))) (tC3 (.int 11))) (tC3 (.int 2147483647)))) (t__law_mix_2 K A ex)
def sp__law_mix (K : Fg) (A : Adr) : Sp3 := spD 3 2 fun EX => t__law_mix K A (fun _ => EX)
def c__law_mix : CB := (.cons (.set 2 (.bin .Mod (.bin .Add (.bin .Add (.bin .Mult (.var 0) (.con (.int 48271))) (.bin .Mult (.var 1) (.con (.int 104729)))) (.con (.int 11))) (.con (.int 2147483647)))) (.cons (.ret (.bin .Mod (.bin .Add (.bin .Add (.bin .Mult (.var 2) (.var 2)) (.bin .Mult (.con (.int 48271)) (.var 1))) (.var 2)) (.con (.int 2147483629)))) .nil))
def S__law_mix (K : Fg) (A : Adr) : SI := ⟨["_law_number", "_law_k", "_law_more"], [true, true, true], [true, true, true], [false, false, false], [], [], true⟩
def t__law_name_3 (K : Fg) (A : Adr) (ex : St3 → EXK) : TS3 :=
    (tRet3 (tOp3 rAdd3 (tOp3 rIx3 (tC3 (.str "ABCDEFGHIJKLMNOPQRSTUVWXYZ")) (tOp3 rIx3 (tVar3 0) (tC3 (.int 0)))) (tVar3 1)))
def t__law_name_2 (K : Fg) (A : Adr) (ex : St3 → EXK) : TS3 :=
    tSeq3 (tIfS3 (tTest3 (tOp3 rEq3 (tCB3 r_len (tCons3 (tVar3 1) tNil3)) (tC3 (.int 1)))) (tSet3 1 (tOp3 rAdd3 (tC3 (.str "0")) (tVar3 1))) tNext3) (t__law_name_3 K A ex)
def t__law_name (K : Fg) (A : Adr) (ex : St3 → EXK) : TS3 :=
    tSeq3 (tSet3 1 (tCB3 r_str (tCons3 (tOp3 rIx3 (tVar3 0) (tC3 (.int 1))) tNil3))) (t__law_name_2 K A ex)
def sp__law_name (K : Fg) (A : Adr) : Sp3 := spD 2 1 fun EX => t__law_name K A (fun _ => EX)
def c__law_name : CB := (.cons (.set 1 (.call 0 (.cons (.ix (.var 0) (.con (.int 1))) .nil))) (.cons (.ifs (.cmp .Eq (.call 1 (.cons (.var 1) .nil)) (.con (.int 1))) (.cons (.set 1 (.bin .Add (.con (.str "0")) (.var 1))) .nil) .nil) (.cons (.ret (.bin .Add (.ix (.con (.str "ABCDEFGHIJKLMNOPQRSTUVWXYZ")) (.ix (.var 0) (.con (.int 0)))) (.var 1))) .nil)))
def S__law_name (K : Fg) (A : Adr) : SI := ⟨["_law_spot", "_law_figures"], [true, true], [true, true], [false, false], [("str", .bt "str"), ("len", .bf .len)], [true, true], true⟩
def t__law_thing_2y_2 (K : Fg) (A : Adr) (ex : St3 → EXK) : TS3 :=
    (tRet3 (tOp3 rIx3 (tLst3 (tCons3 (tVar3 1) (tCons3 (tTup3 (tCons3 (tC3 (.int 0)) (tCons3 (tC3 (.int 1)) tNil3))) (tCons3 (tTup3 (tCons3 (tC3 (.int 25)) (tCons3 (tC3 (.int 99)) tNil3))) (tCons3 (tTup3 (tCons3 (tOp3 rMod3 (tOp3 rFdiv3 (tVar3 0) (tC3 (.int 12))) (tC3 (.int 26))) (tCons3 (tOp3 rAdd3 (tC3 (.int 9)) (tOp3 rMod3 (tOp3 rFdiv3 (tVar3 0) (tC3 (.int 312))) (tC3 (.int 2)))) tNil3))) tNil3))))) (tOp3 rMod3 (tOp3 rFdiv3 (tVar3 0) (tC3 (.int 3))) (tC3 (.int 4)))))
def t__law_thing_3 (K : Fg) (A : Adr) (ex : St3 → EXK) : TS3 :=
    (tRet3 (tOp3 rIx3 (tLst3 (tCons3 (tC3 (.str "ok")) (tCons3 (tC3 (.str "none")) (tCons3 (tC3 (.str "b07")) (tCons3 (tC3 (.str "salt")) tNil3))))) (tOp3 rMod3 (tOp3 rFdiv3 (tVar3 0) (tC3 (.int 3))) (tC3 (.int 4)))))
def t__law_thing_2 (K : Fg) (A : Adr) (ex : St3 → EXK) : TS3 :=
    tSeq3 (tIfS3 (tTest3 (tOp3 rEq3 (tOp3 rMod3 (tVar3 0) (tC3 (.int 3))) (tC3 (.int 1)))) (tSeq3 (tSet3 1 (tTup3 (tCons3 (tOp3 rMod3 (tOp3 rFdiv3 (tVar3 0) (tC3 (.int 12))) (tC3 (.int 26))) (tCons3 (tOp3 rAdd3 (tC3 (.int 1)) (tOp3 rMod3 (tOp3 rFdiv3 (tVar3 0) (tC3 (.int 312))) (tC3 (.int 99)))) tNil3)))) (t__law_thing_2y_2 K A ex)) tNext3) (t__law_thing_3 K A ex)
def t__law_thing (K : Fg) (A : Adr) (ex : St3 → EXK) : TS3 :=
    tSeq3 (tIfS3 (tTest3 (tOp3 rEq3 (tOp3 rMod3 (tVar3 0) (tC3 (.int 3))) (tC3 (.int 0)))) (tRet3 (tOp3 rIx3 (tLst3 (tCons3 (tC3 (.int 0)) (tCons3 (tC3 (.int 1)) (tCons3 (tOp3 rPow3 (tC3 (.int 10)) (tC3 (.int 6))) (tCons3 (tNeg3 (tC3 (.int 5))) (tCons3 (tOp3 rMod3 (tOp3 rFdiv3 (tVar3 0) (tC3 (.int 12))) (tOp3 rPow3 (tC3 (.int 10)) (tC3 (.int 6)))) (tCons3 (tC3 (.int 999)) tNil3))))))) (tOp3 rMod3 (tOp3 rFdiv3 (tVar3 0) (tC3 (.int 3))) (tC3 (.int 6))))) tNext3) (t__law_thing_2 K A ex)
def sp__law_thing (K : Fg) (A : Adr) : Sp3 := spD 2 1 fun EX => t__law_thing K A (fun _ => EX)
def c__law_thing : CB := (.cons (.ifs (.cmp .Eq (.bin .Mod (.var 0) (.con (.int 3))) (.con (.int 0))) (.cons (.ret (.ix (.lst (.cons (.con (.int 0)) (.cons (.con (.int 1)) (.cons (.bin .Pow (.con (.int 10)) (.con (.int 6))) (.cons (.neg (.con (.int 5))) (.cons (.bin .Mod (.bin .FloorDiv (.var 0) (.con (.int 12))) (.bin .Pow (.con (.int 10)) (.con (.int 6)))) (.cons (.con (.int 999)) .nil))))))) (.bin .Mod (.bin .FloorDiv (.var 0) (.con (.int 3))) (.con (.int 6))))) .nil) .nil) (.cons (.ifs (.cmp .Eq (.bin .Mod (.var 0) (.con (.int 3))) (.con (.int 1))) (.cons (.set 1 (.tup (.cons (.bin .Mod (.bin .FloorDiv (.var 0) (.con (.int 12))) (.con (.int 26))) (.cons (.bin .Add (.con (.int 1)) (.bin .Mod (.bin .FloorDiv (.var 0) (.con (.int 312))) (.con (.int 99)))) .nil)))) (.cons (.ret (.ix (.lst (.cons (.var 1) (.cons (.tup (.cons (.con (.int 0)) (.cons (.con (.int 1)) .nil))) (.cons (.tup (.cons (.con (.int 25)) (.cons (.con (.int 99)) .nil))) (.cons (.tup (.cons (.bin .Mod (.bin .FloorDiv (.var 0) (.con (.int 12))) (.con (.int 26))) (.cons (.bin .Add (.con (.int 9)) (.bin .Mod (.bin .FloorDiv (.var 0) (.con (.int 312))) (.con (.int 2)))) .nil))) .nil))))) (.bin .Mod (.bin .FloorDiv (.var 0) (.con (.int 3))) (.con (.int 4))))) .nil)) .nil) (.cons (.ret (.ix (.lst (.cons (.con (.str "ok")) (.cons (.con (.str "none")) (.cons (.con (.str "b07")) (.cons (.con (.str "salt")) .nil))))) (.bin .Mod (.bin .FloorDiv (.var 0) (.con (.int 3))) (.con (.int 4))))) .nil)))
def S__law_thing (K : Fg) (A : Adr) : SI := ⟨["_law_cell", "_law_spot"], [true, true], [true, true], [false, false], [], [], true⟩
def t__law_line_2b_2 (K : Fg) (A : Adr) (ex : St3 → EXK) : TS3 :=
    (tIfS3 (tTest3 (tCB3 (r_isinstance K) (tCons3 (tVar3 2) (tCons3 (tC3 (.ty "tuple")) tNil3)))) (tSet3 1 (tOp3 rAdd3 (tVar3 1) (tCallX (sp__law_name K A) ex (tCons3 (tVar3 2) tNil3)))) (tSet3 1 (tOp3 rAdd3 (tVar3 1) (tCB3 r_str (tCons3 (tVar3 2) tNil3)))))
def t__law_line_2b (K : Fg) (A : Adr) (ex : St3 → EXK) : TS3 :=
    tSeq3 (tIfS3 (tTest3 (tOp3 rNe3 (tVar3 1) (tC3 (.str "")))) (tSet3 1 (tOp3 rAdd3 (tVar3 1) (tC3 (.str " ")))) tNext3) (t__law_line_2b_2 K A ex)
def t__law_line_3 (K : Fg) (A : Adr) (ex : St3 → EXK) : TS3 :=
    (tRet3 (tVar3 1))
def t__law_line_2 (K : Fg) (A : Adr) (ex : St3 → EXK) : TS3 :=
    tSeq3 (tForT3 0 (gName3 2) (t__law_line_2b K A ex)) (t__law_line_3 K A ex)
def t__law_line (K : Fg) (A : Adr) (ex : St3 → EXK) : TS3 :=
    tSeq3 (tSet3 1 (tC3 (.str ""))) (t__law_line_2 K A ex)
def sp__law_line (K : Fg) (A : Adr) : Sp3 := spD 3 1 fun EX => t__law_line K A (fun _ => EX)
def c__law_line : CB := (.cons (.set 1 (.con (.str ""))) (.cons (.forT 0 (.nm 2) (.cons (.ifs (.cmp .NotEq (.var 1) (.con (.str ""))) (.cons (.set 1 (.bin .Add (.var 1) (.con (.str " ")))) .nil) .nil) (.cons (.ifs (.val (.call 1 (.cons (.var 2) (.cons (.glo 0) .nil)))) (.cons (.set 1 (.bin .Add (.var 1) (.call 2 (.cons (.var 2) .nil)))) .nil) (.cons (.set 1 (.bin .Add (.var 1) (.call 3 (.cons (.var 2) .nil)))) .nil)) .nil))) (.cons (.ret (.var 1)) .nil)))
def S__law_line (K : Fg) (A : Adr) : SI := ⟨["_law_row", "_law_text", "_law_thing_here"], [true, true, true], [true, true, true], [false, false, false], [("tuple", .bt "tuple"), ("isinstance", .bf .isi), ("_law_name", .fn (sp__law_name K A) 1 false), ("str", .bt "str")], [true, true, true, true], true⟩
def t_law_4b_3b (K : Fg) (A : Adr) (ex : St3 → EXK) : TS3 :=
    (tDrop3 (tM3 "list" r_append (tVar3 5) (tCons3 (tCallX (sp__law_thing K A) ex (tCons3 (tCallX (sp__law_mix K A) ex (tCons3 (tVar3 4) (tCons3 (tOp3 rAdd3 (tC3 (.int 10)) (tVar3 6)) tNil3))) tNil3)) tNil3)))
def t_law_4b_4 (K : Fg) (A : Adr) (ex : St3 → EXK) : TS3 :=
    (tDrop3 (tM3 "list" r_append (tVar3 2) (tCons3 (tCB3 r_tuple (tCons3 (tVar3 5) tNil3)) tNil3)))
def t_law_4b_3 (K : Fg) (A : Adr) (ex : St3 → EXK) : TS3 :=
    tSeq3 (tForG3 (tiRng1 (tCons3 (tOp3 rAdd3 (tC3 (.int 1)) (tOp3 rMod3 (tVar3 4) (tC3 (.int 4)))) tNil3)) (gName3 6) (t_law_4b_3b K A ex)) (t_law_4b_4 K A ex)
def t_law_4b_2 (K : Fg) (A : Adr) (ex : St3 → EXK) : TS3 :=
    tSeq3 (tSet3 5 (tLst3 tNil3)) (t_law_4b_3 K A ex)
def t_law_4b (K : Fg) (A : Adr) (ex : St3 → EXK) : TS3 :=
    tSeq3 (tSet3 4 (tCallX (sp__law_mix K A) ex (tCons3 (tCallX (sp__law_cell_at K A) ex (tCons3 (tVar3 0) (tCons3 (tC3 (.int 1)) tNil3))) (tCons3 (tVar3 3) tNil3)))) (t_law_4b_2 K A ex)
def t_law_6y_2b (K : Fg) (A : Adr) (ex : St3 → EXK) : TS3 :=
    (tSet3 7 (tOp3 rAdd3 (tOp3 rAdd3 (tVar3 7) (tC3 (.str "; "))) (tCallX (sp__law_line K A) ex (tCons3 (tVar3 5) tNil3))))
def t_law_6y_2 (K : Fg) (A : Adr) (ex : St3 → EXK) : TS3 :=
    (tForG3 (tiS3 (tSlice3 (tVar3 2) (tPart3 (tC3 (.int 1))) tNoPart3)) (gName3 5) (t_law_6y_2b K A ex))
def t_law_10 (K : Fg) (A : Adr) (ex : St3 → EXK) : TS3 :=
    (tRet3 (tAndV3 (tOp3 rEq3 (tCallX (sp_rows_text K A) ex (tCons3 (tSlice3 (tVar3 2) tNoPart3 (tPart3 (tC3 (.int 1)))) tNil3)) (tOp3 rIx3 (tM3 "str" r_split (tVar3 7) (tCons3 (tC3 (.str "; ")) tNil3)) (tC3 (.int 0)))) (tOp3 rEq3 (tCallX (sp_rows_text K A) ex (tCons3 (tLst3 tNil3) tNil3)) (tC3 (.str "none")))))
def t_law_9 (K : Fg) (A : Adr) (ex : St3 → EXK) : TS3 :=
    tSeq3 (tIfS3 (tOr3 (tNot3 (tTest3 (tCB3 (r_isinstance K) (tCons3 (tVar3 9) (tCons3 (tC3 (.ty "str")) tNil3))))) (tOr3 (tTest3 (tOp3 rNe3 (tVar3 9) (tVar3 7))) (tTest3 (tOp3 rNe3 (tVar3 8) (tVar3 2))))) (tRet3 (tC3 (.bl false))) tNext3) (t_law_10 K A ex)
def t_law_8 (K : Fg) (A : Adr) (ex : St3 → EXK) : TS3 :=
    tSeq3 (tSet3 9 (tCallX (sp_rows_text K A) ex (tCons3 (tVar3 8) tNil3))) (t_law_9 K A ex)
def t_law_7 (K : Fg) (A : Adr) (ex : St3 → EXK) : TS3 :=
    tSeq3 (tSet3 8 (tCB3 r_list (tCons3 (tVar3 2) tNil3))) (t_law_8 K A ex)
def t_law_6 (K : Fg) (A : Adr) (ex : St3 → EXK) : TS3 :=
    tSeq3 (tIfS3 (tTest3 (tOp3 rNe3 (tVar3 2) (tLst3 tNil3))) (tSeq3 (tSet3 7 (tCallX (sp__law_line K A) ex (tCons3 (tOp3 rIx3 (tVar3 2) (tC3 (.int 0))) tNil3))) (t_law_6y_2 K A ex)) tNext3) (t_law_7 K A ex)
def t_law_5 (K : Fg) (A : Adr) (ex : St3 → EXK) : TS3 :=
    tSeq3 (tSet3 7 (tC3 (.str "none"))) (t_law_6 K A ex)
def t_law_4 (K : Fg) (A : Adr) (ex : St3 → EXK) : TS3 :=
    tSeq3 (tForG3 (tiRng1 (tCons3 (tVar3 1) tNil3)) (gName3 3) (t_law_4b K A ex)) (t_law_5 K A ex)
def t_law_3 (K : Fg) (A : Adr) (ex : St3 → EXK) : TS3 :=
    tSeq3 (tSet3 2 (tLst3 tNil3)) (t_law_4 K A ex)
def t_law_2 (K : Fg) (A : Adr) (ex : St3 → EXK) : TS3 :=
    tSeq3 (tIfS3 (tTest3 (tOp3 rEq3 (tOp3 rMod3 (tOp3 rFdiv3 (tCallX (sp__law_cell_at K A) ex (tCons3 (tVar3 0) (tCons3 (tC3 (.int 0)) tNil3))) (tC3 (.int 7))) (tC3 (.int 8))) (tC3 (.int 1)))) (tSet3 1 (tOp3 rMul3 (tC3 (.int 10)) (tVar3 1))) tNext3) (t_law_3 K A ex)
def t_law (K : Fg) (A : Adr) (ex : St3 → EXK) : TS3 :=
    tSeq3 (tSet3 1 (tOp3 rMod3 (tCallX (sp__law_cell_at K A) ex (tCons3 (tVar3 0) (tCons3 (tC3 (.int 0)) tNil3))) (tC3 (.int 7)))) (t_law_2 K A ex)
def sp_law (K : Fg) (A : Adr) : Sp3 := spD 10 1 fun EX => t_law K A (fun _ => EX)
def c_law : CB := (.cons (.set 1 (.bin .Mod (.call 0 (.cons (.var 0) (.cons (.con (.int 0)) .nil))) (.con (.int 7)))) (.cons (.ifs (.cmp .Eq (.bin .Mod (.bin .FloorDiv (.call 0 (.cons (.var 0) (.cons (.con (.int 0)) .nil))) (.con (.int 7))) (.con (.int 8))) (.con (.int 1))) (.cons (.set 1 (.bin .Mult (.con (.int 10)) (.var 1))) .nil) .nil) (.cons (.set 2 (.lst .nil)) (.cons (.forG (.rng1 (.var 1)) (.nm 3) (.cons (.set 4 (.call 2 (.cons (.call 0 (.cons (.var 0) (.cons (.con (.int 1)) .nil))) (.cons (.var 3) .nil)))) (.cons (.set 5 (.lst .nil)) (.cons (.forG (.rng1 (.bin .Add (.con (.int 1)) (.bin .Mod (.var 4) (.con (.int 4))))) (.nm 6) (.cons (.expr (.meth .append (.var 5) (.cons (.call 3 (.cons (.call 2 (.cons (.var 4) (.cons (.bin .Add (.con (.int 10)) (.var 6)) .nil))) .nil)) .nil))) .nil)) (.cons (.expr (.meth .append (.var 2) (.cons (.call 4 (.cons (.var 5) .nil)) .nil))) .nil))))) (.cons (.set 7 (.con (.str "none"))) (.cons (.ifs (.cmp .NotEq (.var 2) (.lst .nil)) (.cons (.set 7 (.call 5 (.cons (.ix (.var 2) (.con (.int 0))) .nil))) (.cons (.forG (.any (.sl (.var 2) (.some (.con (.int 1))) .none)) (.nm 5) (.cons (.set 7 (.bin .Add (.bin .Add (.var 7) (.con (.str "; "))) (.call 5 (.cons (.var 5) .nil)))) .nil)) .nil)) .nil) (.cons (.set 8 (.call 6 (.cons (.var 2) .nil))) (.cons (.set 9 (.call 7 (.cons (.var 8) .nil))) (.cons (.ifs (.or (.cons (.not (.val (.call 9 (.cons (.var 9) (.cons (.glo 8) .nil))))) (.cons (.cmp .NotEq (.var 9) (.var 7)) (.cons (.cmp .NotEq (.var 8) (.var 2)) .nil)))) (.cons (.ret (.con (.bl false))) .nil) .nil) (.cons (.ret (.andv (.cons (.cmp .Eq (.call 7 (.cons (.sl (.var 2) .none (.some (.con (.int 1)))) .nil)) (.ix (.meth .split (.var 7) (.cons (.con (.str "; ")) .nil)) (.con (.int 0)))) (.cons (.cmp .Eq (.call 7 (.cons (.lst .nil) .nil)) (.con (.str "none"))) .nil)))) .nil))))))))))
def S_law (K : Fg) (A : Adr) : SI := ⟨["_law_script", "_law_many", "_law_rows", "_law_k", "_law_cell", "_law_row", "_law_j", "_law_due", "_law_handed", "_law_found"], [true, true, true, true, true, true, true, true, true, true], [true, true, true, true, true, true, true, true, true, true], [false, false, false, false, false, false, false, false, false, false], [("_law_cell_at", .fn (sp__law_cell_at K A) 2 false), ("range", .bt "range"), ("_law_mix", .fn (sp__law_mix K A) 2 false), ("_law_thing", .fn (sp__law_thing K A) 1 false), ("tuple", .bt "tuple"), ("_law_line", .fn (sp__law_line K A) 1 false), ("list", .bt "list"), ("rows_text", .fn (sp_rows_text K A) 1 false), ("str", .bt "str"), ("isinstance", .bf .isi)], [true, true, true, true, true, true, true, true, true, true], true⟩
structure Txt (K : Fg) (mg : Str → Option Value) (A : Adr) : Prop where
  F_is_whole : Fun K "is_whole" "is_whole" s_is_whole A.a_is_whole A.d_is_whole
  B_is_whole : Binds K A.d_is_whole ["thing", "least", "most"] []
  m_is_whole : mg "is_whole" = some (.ref A.a_is_whole)
  F_is_pair : Fun K "is_pair" "is_pair" s_is_pair A.a_is_pair A.d_is_pair
  B_is_pair : Binds K A.d_is_pair ["thing", "aisles", "first", "last"] []
  m_is_pair : mg "is_pair" = some (.ref A.a_is_pair)
  F_bin_name : Fun K "bin_name" "bin_name" s_bin_name A.a_bin_name A.d_bin_name
  B_bin_name : Binds K A.d_bin_name ["spot"] []
  m_bin_name : mg "bin_name" = some (.ref A.a_bin_name)
  F_number_text : Fun K "number_text" "number_text" s_number_text A.a_number_text A.d_number_text
  B_number_text : Binds K A.d_number_text ["number"] []
  m_number_text : mg "number_text" = some (.ref A.a_number_text)
  F_thing_text : Fun K "thing_text" "thing_text" s_thing_text A.a_thing_text A.d_thing_text
  B_thing_text : Binds K A.d_thing_text ["thing"] []
  m_thing_text : mg "thing_text" = some (.ref A.a_thing_text)
  F_row_text : Fun K "row_text" "row_text" s_row_text A.a_row_text A.d_row_text
  B_row_text : Binds K A.d_row_text ["row"] []
  m_row_text : mg "row_text" = some (.ref A.a_row_text)
  F_rows_text : Fun K "rows_text" "rows_text" s_rows_text A.a_rows_text A.d_rows_text
  B_rows_text : Binds K A.d_rows_text ["rows"] []
  m_rows_text : mg "rows_text" = some (.ref A.a_rows_text)
  F__law_cell_at : Fun K "_law_cell_at" "_law_cell_at" s__law_cell_at A.a__law_cell_at A.d__law_cell_at
  B__law_cell_at : Binds K A.d__law_cell_at ["_law_script", "_law_k"] []
  m__law_cell_at : mg "_law_cell_at" = some (.ref A.a__law_cell_at)
  F__law_mix : Fun K "_law_mix" "_law_mix" s__law_mix A.a__law_mix A.d__law_mix
  B__law_mix : Binds K A.d__law_mix ["_law_number", "_law_k"] []
  m__law_mix : mg "_law_mix" = some (.ref A.a__law_mix)
  F__law_name : Fun K "_law_name" "_law_name" s__law_name A.a__law_name A.d__law_name
  B__law_name : Binds K A.d__law_name ["_law_spot"] []
  m__law_name : mg "_law_name" = some (.ref A.a__law_name)
  F__law_thing : Fun K "_law_thing" "_law_thing" s__law_thing A.a__law_thing A.d__law_thing
  B__law_thing : Binds K A.d__law_thing ["_law_cell"] []
  m__law_thing : mg "_law_thing" = some (.ref A.a__law_thing)
  F__law_line : Fun K "_law_line" "_law_line" s__law_line A.a__law_line A.d__law_line
  B__law_line : Binds K A.d__law_line ["_law_row"] []
  m__law_line : mg "_law_line" = some (.ref A.a__law_line)
  F_law : Fun K "law" "law" s_law A.a_law A.d_law
  B_law : Binds K A.d_law ["_law_script"] []
  m_law : mg "law" = some (.ref A.a_law)
  m_DepotError : mg "DepotError" = some (.ref A.c_DepotError)
  x_DepotError : PySem.W.excIn K A.c_DepotError BMv "ValueError.__new__" = true
  cs_DepotError : (PySem.W.clsIn K A.c_DepotError).isSome = true
  ty_DepotError : PySem.W.typeIn K (.ref A.c_DepotError) = some (.type "type")
  be_DepotError : PySem.W.subIn K (.ref A.c_DepotError) (.type "BaseException") = some true
  e_DepotError : ExC K A.c_DepotError
  kv_DepotError : PySem.W.kitOne K (.ref A.c_DepotError) (.type "ValueError") = some true
  m_NoBin : mg "NoBin" = some (.ref A.c_NoBin)
  x_NoBin : PySem.W.excIn K A.c_NoBin BMv "ValueError.__new__" = true
  cs_NoBin : (PySem.W.clsIn K A.c_NoBin).isSome = true
  ty_NoBin : PySem.W.typeIn K (.ref A.c_NoBin) = some (.type "type")
  be_NoBin : PySem.W.subIn K (.ref A.c_NoBin) (.type "BaseException") = some true
  e_NoBin : ExC K A.c_NoBin
  kv_NoBin : PySem.W.kitOne K (.ref A.c_NoBin) (.type "ValueError") = some true
  g_LETTERS : ∃ t, mg "LETTERS" = some (.str "ABCDEFGHIJKLMNOPQRSTUVWXYZ" t)
  g_FIGURES : ∃ t, mg "FIGURES" = some (.str "0123456789" t)
  g_MOST_AISLES : ∃ t, mg "MOST_AISLES" = some (.int 26 t)
  g_MOST_PLACES : ∃ t, mg "MOST_PLACES" = some (.int 99 t)
  b_abs : mg "abs" = none
  b_bool : mg "bool" = none
  b_int : mg "int" = none
  b_isinstance : mg "isinstance" = none
  b_len : mg "len" = none
  b_list : mg "list" = none
  b_range : mg "range" = none
  b_reversed : mg "reversed" = none
  b_str : mg "str" = none
  b_tuple : mg "tuple" = none
end Law
set_option Elab.async false
set_option linter.all false
set_option maxRecDepth 100000
set_option maxHeartbeats 4000000
namespace Law
open PySem PySem.Spec PyProof.Rows L2 L4 L5 L6
local macro_rules | `(tactic| walk_at "wp") => `(tactic| first | (simp (maxSteps := 2000000) (implicitDefEqProofs := false) (disch := first | rfl | decide | assumption | omega) only [L5.x_seq, L5.x_next, L5.x_brk, L5.x_cont, L5.x_drop, L5.x_ret, L5.x_retN, L5.x_ifs, L5.x_set, L5.x_raise, L5.x_c, L5.x_var0, L5.x_varS, L5.x_op, L5.x_test, L5.x_chain, L5.x_and, L5.x_or, L5.x_not, L5.x_andV, L5.x_orV, L5.x_notV, L5.x_neg, L5.x_ifx, L5.x_nil, L5.x_cons, L5.x_tup, L5.x_lst, L5.x_dct, L5.x_call, L5.x_cb, L5.x_m, L5.x_m0, L5.x_tyStr, L5.x_nopart, L5.x_part, L5.x_slice, L5.x_for, L5.x_forR, L5.x_try, L5.onB_bl, L5.onI_int, L5.x_add_ii, L5.x_add_tt, L5.x_sub, L5.x_mulL, L5.x_mulR, L5.x_fdiv', L5.x_mod', L5.x_pow', L5.x_lt, L5.x_gt, L5.x_ge, L5.x_le, L5.x_le_s, L5.x_in_ss, L5.x_notin_ss, L5.x_eq_ii, L5.x_ne_ii, L5.x_eq_bb, L5.x_ne_bb, L5.x_eq_ss, L5.x_ne_ss, L5.x_eq_tt, L5.x_ne_tt, L5.x_len_s, L5.x_len_t, L5.x_abs, L5.x_int_b, L5.x_int_i, L5.x_is_nn, L5.x_is_bb, L5.x_isnt_bb, L5.x_isnt_nn, L5.lsOf_upd, L5.x_ix_t0, L5.x_ix_t1, L5.x_ix_t2, L5.lenOk0, L5.lenOk1, L5.lenOk2, L5.lenOk3, L5.lenOk4, L5.lenOk5, L5.lenOk6, L5.lenOk7, L5.lenOk8, L5.lenOk9, L5.lenOk10, L5.lenOk11, L5.lenOk12, L5.lenOk13, L5.lenOk14, L5.lenOk15, L5.lenOk16, L5.lenOk17, L5.lenOk18, L5.lenOk19, L5.lenOk20, L5.lenOk21, L5.lenOk22, L5.lenOk23, L5.lenOk24, L5.lenOk25, L5.lenOk26, L5.lenOk27, L5.lenOk28, L5.lenOk29, L5.lenOk30, L5.isi_non_int, L5.isi_non_bool, L5.isi_non_str, L5.isi_non_list, L5.isi_non_tuple, L5.isi_non_dict, L5.isi_bl_int, L5.isi_bl_bool, L5.isi_bl_str, L5.isi_bl_list, L5.isi_bl_tuple, L5.isi_bl_dict, L5.isi_int_int, L5.isi_int_bool, L5.isi_int_str, L5.isi_int_list, L5.isi_int_tuple, L5.isi_int_dict, L5.isi_str_int, L5.isi_str_bool, L5.isi_str_str, L5.isi_str_list, L5.isi_str_tuple, L5.isi_str_dict, L5.isi_tup_int, L5.isi_tup_bool, L5.isi_tup_str, L5.isi_tup_list, L5.isi_tup_tuple, L5.isi_tup_dict, L5.s_true_and, L5.s_and_true, L5.s_and_self, L5.s_or_true, L5.s_true_or, L5.s_not_true, L5.s_not_false, L5.s_not_eq, L5.s_if_true, L5.s_if_false, L5.s_bft, L5.s_btf, L5.s_self, L5.s_len_cons, L5.s_len_nil, L5.s_len_map, L6.x_tiAny, L6.x_tiS, L6.x_rng1, L6.x_rng2, L6.srcK_tup, L6.srcK_str, L6.srcSK_str, L6.rng1K_i, L6.rng2K_i, L6.x_comp, L6.x_forG, L6.x_gName, L6.x_gTup, L6.x_sets0, L6.x_min, L6.x_max, L6.x_list_t, L6.x_setT, L6.x_aug, L6.x_onN, L6.x_augF0, L6.x_augF1, L6.x_eqD_t, L6.x_neD_t, L6.x_exc, L6.x_maxD, L6.x_zip, L7.x_rng3, L7.x_rev, L7.x_dctT, L7.x_setD, L7.x_hid, reduceIte, reduceCtorEq]; try dsimp only [L5.x_set0, L5.x_setS, L5.x_clr0, L5.x_clrS, L6.x_setsS]) | dsimp only [L5.x_set0, L5.x_setS, L5.x_clr0, L5.x_clrS, L6.x_setsS])
section
variable {K : Fg} {A : Adr} {G : Gp} {R : VK3} {EX : EXK} {mg : Str → Option Value}
open L7 PySem.W.KIN
def cellAt (ns : List Int) (k : Nat) : Int := if k < ns.length then ns.getD k 0 else if ns = [] then 0 else
  let m := (ns.getD (k % ns.length) 0 * 48271 + k * 104729) % 2147483647
  (m * m + 48271 * k) % 2147483629
theorem w_cell {a : Addr} {ns : List Int} (hG : G a = some (.rol (ns.map D.int))) {k : Nat} (hk : k < 1000) (h : R (.int (cellAt ns k)) G) : sp__law_cell_at K A [.ref a, .int (k : Int)] G R EX := by
  refine ⟨rfl, ?_⟩
  replace h := dropR.here h
  show t__law_cell_at K A _ _ [some (.ref a), some (.int k), none] G
  (simp (implicitDefEqProofs := false) only [t__law_cell_at, x_len_r (lsOf_rol hG)]; repeat (first | (walk_at "wp") | (simp (implicitDefEqProofs := false) only [t__law_cell_at, x_len_r (lsOf_rol hG)])))
  by_cases c : k < ns.length
  · rw [if_pos (decide_eq_true (by omega))]
    have e : atI (ns.map D.int) (k : Int) = some (.int (ns.getD k 0)) := by rw [at_nat]; simp [c, List.getD]
    rw [x_ix_r (lsOf_rol hG) e]
    rw [show cellAt ns k = ns.getD k 0 by unfold cellAt; rw [if_pos c]] at h
    exact h
  · rw [if_neg (by simp; omega)]
    (simp (implicitDefEqProofs := false) only [t__law_cell_at_2, x_len_r (lsOf_rol hG)]; repeat (first | (walk_at "wp") | (simp (implicitDefEqProofs := false) only [t__law_cell_at_2, x_len_r (lsOf_rol hG)])))
    by_cases hn : ns = []
    · subst hn
      rw [show cellAt [] k = 0 by unfold cellAt; simp] at h
      exact h
    · have h0 : 0 < (ns.length : Int) := by cases ns with
        | nil => exact absurd rfl hn
        | cons n r => simp
      have e0 : ((ns.length : Int) == 0) = false := by simp; exact hn
      rw [e0]
      (simp (implicitDefEqProofs := false) only [t__law_cell_at_3, x_len_r (lsOf_rol hG)]; repeat (first | (walk_at "wp") | (simp (implicitDefEqProofs := false) only [t__law_cell_at_3, x_len_r (lsOf_rol hG)])))
      have hm : k % ns.length < ns.length := Nat.mod_lt _ (by omega)
      have e2 : atI (ns.map D.int) ((k : Int) % (ns.length : Int)) = some (.int (ns.getD (k % ns.length) 0)) := by
        rw [← Int.natCast_emod, at_nat]; simp [hm, List.getD]
      rw [x_ix_r (lsOf_rol hG) e2]
      (simp (implicitDefEqProofs := false) only [t__law_cell_at_4]; repeat (first | (walk_at "wp") | (simp (implicitDefEqProofs := false) only [t__law_cell_at_4])))
      have ec : cellAt ns k = ((ns.getD (k % ns.length) 0 * 48271 + (k : Int) * 104729) % 2147483647 * ((ns.getD (k % ns.length) 0 * 48271 + (k : Int) * 104729) % 2147483647) + 48271 * (k : Int)) % 2147483629 := by
        unfold cellAt
        rw [if_neg c, if_neg hn]
      rw [← ec]
      exact h
/-- the list at p is xs now, all else stays -/
def HS (G : Gp) (p : Addr) (xs : List D) (G' : Gp) : Prop := G' p = some (.lst xs) ∧ ∀ q u, q ≠ p → G q = some u → G' q = some u
theorem HS.le {p : Addr} {xs : List D} {G' : Gp} (h : HS G p xs G') : Le (updG G p (.lst xs)) G' := fun q u e => by
  by_cases c : q = p
  · subst c
    rw [updG_same] at e
    exact e ▸ h.1
  · rw [updG_ne c] at e
    exact h.2 q u c e
theorem HS.new {p q : Addr} {xs : List D} {G' : Gp} {o : GO} (h : HS G p xs G') (hq : G' q = none) : HS G p xs (updG G' q o) := ⟨updG_old h.1 hq, fun r u n e => updG_old (h.2 r u n e) hq⟩
theorem HS.trans {p : Addr} {xs ys : List D} {G' G2 : Gp} (h : HS G p xs G') (h2 : HS G' p ys G2) : HS G p ys G2 := ⟨h2.1, fun r u n e => h2.2 r u n (h.2 r u n e)⟩
theorem HS.put {p : Addr} {xs ys : List D} (h : G p = some (.lst xs)) : HS G p ys (updG G p (.lst ys)) := ⟨updG_same, fun r u n e => by rw [updG_ne n]; exact e⟩
theorem HS.more {p : Addr} {xs : List D} {G' G2 : Gp} (h : HS G p xs G') (l : Le G' G2) : HS G p xs G2 := ⟨l _ _ h.1, fun r u n e => l _ _ (h.2 r u n e)⟩
theorem HS.leG {p : Addr} {xs : List D} {G' : Gp} (h : HS G p xs G') (hp : G p = none) : Le G G' := fun r u e => h.2 r u (fun z => by subst z; rw [hp] at e; cases e) e
theorem HS.mk0 {p : Addr} {xs : List D} : HS G p xs (updG G p (.lst xs)) := ⟨updG_same, fun r u n e => by rw [updG_ne n]; exact e⟩
theorem HS.snd {p : Addr} {xs ys : List D} {G' : Gp} (h : HS G p xs G') : HS G p ys (updG G' p (.lst ys)) := h.trans (.put h.1)
def mixN (n k : Int) : Int := ((n * 48271 + k * 104729 + 11) % 2147483647 * ((n * 48271 + k * 104729 + 11) % 2147483647) + 48271 * k + (n * 48271 + k * 104729 + 11) % 2147483647) % 2147483629
theorem w_mix {n k : Int} (h : R (.int (mixN n k)) G) : sp__law_mix K A [.int n, .int k] G R EX := by
  refine ⟨rfl, ?_⟩
  replace h := dropR.here h
  show t__law_mix K A _ _ [some (.int n), some (.int k), none] G
  (simp (implicitDefEqProofs := false) only [t__law_mix, t__law_mix_2]; repeat (first | (walk_at "wp") | (simp (implicitDefEqProofs := false) only [t__law_mix, t__law_mix_2])))
  exact h
/-! ### things as texts -/
def txtI (i : Int) : Str := Str.ofString (toString i)
def figT (p : Int) : Str := if (txtI p).length = 1 then Str.ofString "0" ++ txtI p else txtI p
def letT (a : Int) : Str := ⟨#[(Str.ofString "ABCDEFGHIJKLMNOPQRSTUVWXYZ").cps.toList.getD a.toNat 0]⟩
def nameT (a p : Int) : Str := letT a ++ figT p
def thT : D → Str
  | .int i => txtI i
  | .str z => z
  | .tup [.int a, .int p] => nameT a p
  | _ => Str.ofString ""
/-- a thing of a row -/
inductive Thg : D → Prop where
  | num (i : Int) (h : -5 ≤ i ∧ i ≤ 1000000) : Thg (.int i)
  | bin (a p : Int) (ha : 0 ≤ a ∧ a ≤ 25) (hp : 1 ≤ p ∧ p ≤ 99) : Thg (.tup [.int a, .int p])
  | txt (z : Str) (h : z ∈ [Str.ofString "ok", Str.ofString "none", Str.ofString "b07", Str.ofString "salt"]) : Thg (.str z)
theorem txtI_len {i : Int} (h : i.natAbs < 10 ^ 7) : (txtI i).length ≤ 8 := by
  have := PySem.int_text_length_le10 (a := i) (k := 7) (by omega) h
  unfold txtI
  rw [PySem.ofString_length]
  omega
theorem figT_len {p : Int} (hp : 1 ≤ p ∧ p ≤ 99) : (figT p).length ≤ 9 := by
  have := txtI_len (i := p) (by omega)
  unfold figT
  split
  · rw [len_app, show (Str.ofString "0").length = 1 from rfl]; omega
  · omega
theorem thT_len {d : D} (h : Thg d) : (thT d).length ≤ 10 := by
  cases h with
  | num i h => have := txtI_len (i := i) (by omega); show (txtI i).length ≤ 10; omega
  | bin a p ha hp =>
    show (letT a ++ figT p).length ≤ 10
    rw [len_app]
    have := figT_len hp
    have : (letT a).length = 1 := rfl
    omega
  | txt z h =>
    simp only [List.mem_cons, List.not_mem_nil, or_false] at h
    rcases h with rfl | rfl | rfl | rfl <;> decide
theorem log_small {i : Int} (h : i.natAbs < 10 ^ 7) : i.natAbs.log2 < 1920 := by
  by_cases z : i.natAbs = 0
  · rw [z]; decide
  · rw [Nat.log2_lt z]
    exact Nat.lt_trans h (by decide +kernel)
theorem w_name {a p : Int} (ha : 0 ≤ a ∧ a ≤ 25) (hp : 1 ≤ p ∧ p ≤ 99) (h : R (.str (nameT a p)) G) : sp__law_name K A [.tup [.int a, .int p]] G R EX := by
  have big : 10000 < sizeLine := by decide
  refine ⟨rfl, ?_⟩
  replace h := dropR.here h
  show t__law_name K A _ _ [some (.tup [.int a, .int p]), none] G
  have tl := txtI_len (i := p) (by omega)
  have hs : ∀ {R : VK3}, r_str [.int p] G R = R (.str (txtI p)) G := fun {R} => propext ⟨fun z => z.2, fun z => ⟨log_small (by omega), z⟩⟩
  (simp (implicitDefEqProofs := false) only [t__law_name, hs]; repeat (first | (walk_at "wp") | (simp (implicitDefEqProofs := false) only [t__law_name, hs])))
  have nm : ∀ z : Str, z.length ≤ 9 → dropR R (.str (letT a ++ z)) G → t__law_name_3 K A (fun _ => dropX EX) { nx := fun _ G' => dropR R D.non G', rt := dropR R } [some (.tup [.int a, .int p]), some (.str z)] G := by
    intro z zl hz
    (simp (implicitDefEqProofs := false) only [t__law_name_3]; repeat (first | (walk_at "wp") | (simp (implicitDefEqProofs := false) only [t__law_name_3])))
    have hx : atI (Str.ofString "ABCDEFGHIJKLMNOPQRSTUVWXYZ").cps.toList a = some ((Str.ofString "ABCDEFGHIJKLMNOPQRSTUVWXYZ").cps.toList.getD a.toNat 0) := by
      obtain ⟨n, rfl⟩ : ∃ n : Nat, a = (n : Int) := ⟨a.toNat, by omega⟩
      have hn : n < (Str.ofString "ABCDEFGHIJKLMNOPQRSTUVWXYZ").cps.toList.length := by
        rw [show (Str.ofString "ABCDEFGHIJKLMNOPQRSTUVWXYZ").cps.toList.length = 26 by decide]
        omega
      rw [at_nat, List.getD_eq_getElem?_getD, show (n : Int).toNat = n by omega, List.getElem?_eq_getElem hn]
      rfl
    rw [x_ix_s hx]
    refine ⟨by rw [show (Str.ofString "ABCDEFGHIJKLMNOPQRSTUVWXYZ").length = 26 by decide]; omega, ?_⟩
    rw [x_add_ss' (by rw [show (⟨#[(Str.ofString "ABCDEFGHIJKLMNOPQRSTUVWXYZ").cps.toList.getD a.toNat 0]⟩ : Str).length = 1 from rfl]; omega)]
    exact hz
  (simp (implicitDefEqProofs := false) only [t__law_name_2]; repeat (first | (walk_at "wp") | (simp (implicitDefEqProofs := false) only [t__law_name_2])))
  unfold nameT figT at h
  by_cases c : (txtI p).length = 1
  · rw [if_pos c] at h
    refine ⟨by omega, ?_⟩
    rw [if_pos (by simp [c])]
    rw [x_add_ss' (by rw [show (Str.ofString "0").length = 1 from rfl]; omega)]
    exact nm _ (by rw [len_app, show (Str.ofString "0").length = 1 from rfl]; omega) h
  · rw [if_neg c] at h
    refine ⟨by omega, ?_⟩
    rw [if_neg (by simp; omega)]
    exact nm _ (by omega) h
theorem w_thing {c : Int} (h : ∀ d G', Le G G' → Thg d → R d G') : sp__law_thing K A [.int c] G R EX := by
  refine ⟨rfl, ?_⟩
  have h' : ∀ d G', Le G G' → Thg d → dropR R d G' := fun d G' a b => dropR.here (h d G' a b)
  clear h
  show t__law_thing K A _ _ [some (.int c), none] G
  (simp (implicitDefEqProofs := false) only [t__law_thing]; repeat (first | (walk_at "wp") | (simp (implicitDefEqProofs := false) only [t__law_thing])))
  refine iteBool (fun _ => ?_) fun _ => ?_
  · intro p hp
    refine ix_new rfl (by decide) (all_cons (h' _ _ (.new hp) (.num _ (by omega))) (all_cons (h' _ _ (.new hp) (.num _ (by omega))) (all_cons (h' _ _ (.new hp) (.num _ ?_)) (all_cons (h' _ _ (.new hp) (.num _ (by omega))) (all_cons (h' _ _ (.new hp) (.num _ ?_)) (all_cons (h' _ _ (.new hp) (.num _ (by omega))) all_nil))))))
    · decide
    · have e : (10 : Int) ^ Int.toNat 6 = 1000000 := by decide
      rw [e]
      omega
  · (simp (implicitDefEqProofs := false) only [t__law_thing_2]; repeat (first | (walk_at "wp") | (simp (implicitDefEqProofs := false) only [t__law_thing_2])))
    refine iteBool (fun _ => ?_) fun _ => ?_
    · (simp (implicitDefEqProofs := false) only [t__law_thing_2y_2]; repeat (first | (walk_at "wp") | (simp (implicitDefEqProofs := false) only [t__law_thing_2y_2])))
      intro p hp
      refine ix_new rfl (by decide) (all_cons (h' _ _ (.new hp) (.bin _ _ (by omega) (by omega))) (all_cons (h' _ _ (.new hp) (.bin _ _ (by omega) (by omega))) (all_cons (h' _ _ (.new hp) (.bin _ _ (by omega) (by omega))) (all_cons (h' _ _ (.new hp) (.bin _ _ (by omega) (by omega))) all_nil))))
    · (simp (implicitDefEqProofs := false) only [t__law_thing_3]; repeat (first | (walk_at "wp") | (simp (implicitDefEqProofs := false) only [t__law_thing_3])))
      intro p hp
      refine ix_new rfl (by decide) (all_cons (h' _ _ (.new hp) (.txt _ (by simp))) (all_cons (h' _ _ (.new hp) (.txt _ (by simp))) (all_cons (h' _ _ (.new hp) (.txt _ (by simp))) (all_cons (h' _ _ (.new hp) (.txt _ (by simp))) all_nil))))
def addT (t : Str) (d : D) : Str := (if t = Str.ofString "" then t else t ++ Str.ofString " ") ++ thT d
def lineT (ds : List D) : Str := ds.foldl addT (Str.ofString "")
theorem addT_len (t : Str) {d : D} (h : Thg d) : (addT t d).length ≤ t.length + 11 := by
  have := thT_len h
  unfold addT
  rw [len_app]
  split
  · omega
  · rw [len_app, show (Str.ofString " ").length = 1 from rfl]; omega
theorem fold_addT_len : ∀ (ds : List D) (t : Str), (∀ d ∈ ds, Thg d) → (ds.foldl addT t).length ≤ t.length + 11 * ds.length
  | [], t, _ => by simp
  | d :: ds, t, h => by
    have a := fold_addT_len ds (addT t d) fun e he => h e (by simp [he])
    have b := addT_len t (h d (by simp))
    rw [List.foldl_cons, List.length_cons]
    omega
theorem lineT_len {ds : List D} (h : ∀ d ∈ ds, Thg d) : (lineT ds).length ≤ 11 * ds.length := by
  have := fold_addT_len ds (Str.ofString "") h
  rw [show (Str.ofString "").length = 0 from rfl] at this
  unfold lineT
  omega
theorem x_forT {i : Nat} {tg : TG3} {tb : TS3} {F : Ends3} {ρ : St3} : tForT3 i tg tb F ρ G = ∃ xs, ρ[i]? = some (some (.tup xs)) ∧ ∃ P : Nat → St3 → Gp → Prop, P 0 ρ G ∧ (∀ k d ρ G, xs[k]? = some d → P k ρ G → tg d ρ fun ρ2 => tb { F with nx := P (k + 1), ct := P (k + 1), bk := F.nx } ρ2 G) ∧ ∀ ρ G, P xs.length ρ G → F.nx ρ G := rfl
theorem line_turn {F : Ends3} {ex : St3 → EXK} {t : Str} {d : D} {r0 : Option D} (hd : Thg d) (tl : t.length ≤ 100) (h : F.nx [r0, some (.str (addT t d)), some d] G) : t__law_line_2b_2 K A ex F [r0, some (.str (if t = Str.ofString "" then t else t ++ Str.ofString " ")), some d] G := by
  have big : 10000 < sizeLine := by decide
  have dl := thT_len hd
  have ul : (if t = Str.ofString "" then t else t ++ Str.ofString " ").length ≤ 101 := by
    split
    · omega
    · rw [len_app, show (Str.ofString " ").length = 1 from rfl]; omega
  unfold addT at h
  generalize (if t = Str.ofString "" then t else t ++ Str.ofString " ") = u at h ul ⊢
  cases hd with
  | num i hi =>
    have hs : ∀ {R : VK3}, r_str [.int i] G R = R (.str (txtI i)) G := fun {R} => propext ⟨fun z => z.2, fun z => ⟨log_small (by omega), z⟩⟩
    (simp (implicitDefEqProofs := false) only [t__law_line_2b_2, hs]; repeat (first | (walk_at "wp") | (simp (implicitDefEqProofs := false) only [t__law_line_2b_2, hs])))
    rw [x_add_ss' (by have : (txtI i).length ≤ 10 := dl; omega)]
    exact h
  | bin a p ha hp =>
    (simp (implicitDefEqProofs := false) only [t__law_line_2b_2]; repeat (first | (walk_at "wp") | (simp (implicitDefEqProofs := false) only [t__law_line_2b_2])))
    refine w_name ha hp ?_
    rw [x_add_ss' (by have : (nameT a p).length ≤ 10 := dl; omega)]
    exact h
  | txt z hz =>
    have hs : ∀ {R : VK3}, r_str [.str z] G R = R (.str z) G := fun {R} => rfl
    (simp (implicitDefEqProofs := false) only [t__law_line_2b_2, hs]; repeat (first | (walk_at "wp") | (simp (implicitDefEqProofs := false) only [t__law_line_2b_2, hs])))
    rw [x_add_ss' (by have : z.length ≤ 10 := dl; omega)]
    exact h
theorem w_line {ds : List D} (hd : ∀ d ∈ ds, Thg d) (dl : ds.length ≤ 4) (h : R (.str (lineT ds)) G) : sp__law_line K A [.tup ds] G R EX := by
  have big : 10000 < sizeLine := by decide
  refine ⟨rfl, ?_⟩
  replace h := dropR.here h
  show t__law_line K A _ _ [some (.tup ds), none, none] G
  (simp (implicitDefEqProofs := false) only [t__law_line, t__law_line_2]; repeat (first | (walk_at "wp") | (simp (implicitDefEqProofs := false) only [t__law_line, t__law_line_2])))
  rw [x_forT]
  refine ⟨ds, rfl, fun k ρ G' => ∃ r2, ρ = [some (.tup ds), some (.str (lineT (ds.take k))), r2] ∧ Le G G' ∧ Le G' G, ⟨_, rfl, .refl _, .refl _⟩, fun k d ρ G' hk ⟨_, e, l, l'⟩ => ?_, fun ρ G' ⟨_, e, l, l'⟩ => ?_⟩
  · subst e
    have md := hd d (List.mem_of_getElem? hk)
    have tl := lineT_len (ds := ds.take k) fun e he => hd e (List.mem_of_mem_take he)
    have ll : (lineT (ds.take k)).length ≤ 100 := by rw [List.length_take] at tl; omega
    have en : lineT (ds.take (k + 1)) = addT (lineT (ds.take k)) d := by
      unfold lineT
      rw [List.take_succ, hk]
      show List.foldl addT _ (_ ++ [d]) = _
      rw [List.foldl_append]
      rfl
    generalize lineT (ds.take k) = t at ll en ⊢
    (simp (implicitDefEqProofs := false) only [t__law_line_2b]; repeat (first | (walk_at "wp") | (simp (implicitDefEqProofs := false) only [t__law_line_2b])))
    have fin : t__law_line_2b_2 K A (fun _ => dropX EX) { nx := fun ρ G' => ∃ r2, ρ = [some (.tup ds), some (.str (lineT (ds.take (k + 1)))), r2] ∧ Le G G' ∧ Le G' G, rt := dropR R, bk := t__law_line_3 K A (fun _ => dropX EX) { nx := fun _ G' => dropR R D.non G', rt := dropR R }, ct := fun ρ G' => ∃ r2, ρ = [some (.tup ds), some (.str (lineT (ds.take (k + 1)))), r2] ∧ Le G G' ∧ Le G' G } [some (.tup ds), some (.str (if t = Str.ofString "" then t else t ++ Str.ofString " ")), some d] G' := line_turn md ll ⟨_, by rw [en], l, l'⟩
    by_cases c : t = Str.ofString ""
    · rw [if_pos c] at fin
      rw [if_neg (by simp [c])]
      exact fin
    · rw [if_neg c] at fin
      rw [if_pos (by simp [c])]
      rw [x_add_ss' (by rw [show (Str.ofString " ").length = 1 from rfl]; omega)]
      exact fin
  · subst e
    rw [List.take_length]
    (simp (implicitDefEqProofs := false) only [t__law_line_3]; repeat (first | (walk_at "wp") | (simp (implicitDefEqProofs := false) only [t__law_line_3])))
    obtain ⟨G0, lo, hr⟩ := h
    exact ⟨G0, lo.trans l, hr⟩
structure RowOk (row : List D) : Prop where
  ne : row ≠ []
  len : row.length ≤ 4
  ths : ∀ d ∈ row, Thg d
theorem x_tuple_r {q : Addr} {ds : List D} (h : lsOf G q = some ds) : r_tuple [.ref q] G R = R (.tup ds) G := by
  unfold L2.r_tuple
  simp only [h]
theorem law_row {F : Ends3} {ex : St3 → EXK} {a p : Addr} {ns : List Int} {rows : List (List D)} {k : Nat} {r1 r4 r5 r6 r7 r8 r9 : Option D} (hG : G a = some (.rol (ns.map D.int))) (hp : G p = some (.lst (rows.map D.tup))) (rl : rows.length ≤ 100) (h : ∀ row G' r4 r5 r6, RowOk row → HS G p ((rows ++ [row]).map D.tup) G' → F.nx [some (.ref a), r1, some (.ref p), some (.int (k : Int)), r4, r5, r6, r7, r8, r9] G') : t_law_4b K A ex F [some (.ref a), r1, some (.ref p), some (.int (k : Int)), r4, r5, r6, r7, r8, r9] G := by
  have big : 10000 < sizeLine := by decide
  (simp (implicitDefEqProofs := false) only [t_law_4b]; repeat (first | (walk_at "wp") | (simp (implicitDefEqProofs := false) only [t_law_4b])))
  refine w_cell (k := 1) hG (by omega) ?_
  (repeat (walk_at "wp"))
  refine w_mix ?_
  (simp (implicitDefEqProofs := false) only [t_law_4b_2]; repeat (first | (walk_at "wp") | (simp (implicitDefEqProofs := false) only [t_law_4b_2])))
  generalize mixN (cellAt ns 1) (k : Int) = c
  intro q hq
  have c0 := Int.emod_nonneg c (show (4 : Int) ≠ 0 by decide)
  have c1 := Int.emod_lt_of_pos c (show (0 : Int) < 4 by decide)
  (simp (implicitDefEqProofs := false) only [t_law_4b_3]; repeat (first | (walk_at "wp") | (simp (implicitDefEqProofs := false) only [t_law_4b_3])))
  refine forG_rng (fun j ρ G' => ∃ r6 ds, ρ = [some (.ref a), r1, some (.ref p), some (.int (k : Int)), some (.int c), some (.ref q), r6, r7, r8, r9] ∧ HS G q ds G' ∧ (∀ d ∈ ds, Thg d) ∧ ds.length = j) ⟨_, [], rfl, .mk0, all_nil, rfl⟩ (fun j ρ G' hj h => ?_) fun ρ G' h2 => ?_
  · obtain ⟨_, ds, rfl, s, td, dl⟩ := h
    (simp (implicitDefEqProofs := false) only [t_law_4b_3b]; repeat (first | (walk_at "wp") | (simp (implicitDefEqProofs := false) only [t_law_4b_3b])))
    rw [x_tyLst, lsOf_lst s.1]
    refine ⟨rfl, ?_⟩
    refine w_mix ?_
    (repeat (walk_at "wp"))
    refine w_thing fun d G2 l2 th => ?_
    (repeat (walk_at "wp"))
    rw [x_append (l2 _ _ s.1) (by omega)]
    refine ⟨_, ds ++ [d], rfl, (s.more l2).snd, fun e he => ?_, by rw [List.length_append, dl]; rfl⟩
    rcases List.mem_append.mp he with he | he
    · exact td e he
    · rw [List.mem_singleton] at he; exact he ▸ th
  · obtain ⟨_, ds, rfl, s, td, dl⟩ := h2
    have lg := s.leG hq
    (simp (implicitDefEqProofs := false) only [t_law_4b_4]; repeat (first | (walk_at "wp") | (simp (implicitDefEqProofs := false) only [t_law_4b_4])))
    rw [x_tyLst, lsOf_lst (lg _ _ hp)]
    refine ⟨rfl, ?_⟩
    rw [x_tuple_r (lsOf_lst s.1)]
    (repeat (walk_at "wp"))
    rw [x_append (lg _ _ hp) (by rw [List.length_map]; omega)]
    refine h ds _ _ _ _ ⟨fun e => by subst e; simp at dl; omega, by omega, td⟩ ⟨by rw [List.map_append]; exact updG_same, fun r u n e => by rw [updG_ne n]; exact lg r u e⟩
/-! ### the first part of a text that is parted by "; " -/
def noSc (z : Str) : Prop := ∀ c ∈ z.cps.toList, c ≠ 59
theorem noSc.app {x y : Str} (a : noSc x) (b : noSc y) : noSc (x ++ y) := fun c hc => by
  have hc : c ∈ (x.cps ++ y.cps).toList := hc
  rw [Array.toList_append] at hc
  exact (List.mem_append.mp hc).elim (a c) (b c)
abbrev scT : Str := Str.ofString "; "
theorem sub_list (s : Str) (i : Nat) : Builtin.Str.subAt s scT i = true ↔ (s.cps.toList.drop i).take 2 = [59, 32] := by
  unfold Builtin.Str.subAt
  rw [beq_iff_eq, ← Array.toList_inj, Array.toList_extract]
  rw [show scT.length = 2 by decide, show scT.cps.toList = [59, 32] by decide]
  unfold List.extract
  rw [show i + 2 - i = 2 by omega]
theorem head_split {x r : Str} (hx : noSc x) (hr : r = Str.ofString "" ∨ ∃ r', r = scT ++ r') : (Txt.split (x ++ r) scT)[0]? = some x := by
  have hl : (x ++ r).cps.toList = x.cps.toList ++ r.cps.toList := Array.toList_append
  have pos := PyProof.Rows.split_pos (x ++ r) scT
  obtain ⟨z, hz⟩ : ∃ z, (Txt.split (x ++ r) scT)[0]? = some z := ⟨_, List.getElem?_eq_getElem (by omega)⟩
  rw [hz]
  have ge : ∀ i, StrLaws.At (x ++ r) scT (x ++ r).length i → x.cps.toList.length ≤ i := fun i ⟨_, h⟩ => by
    rcases Nat.lt_or_ge i x.cps.toList.length with c | c
    · rw [sub_list, hl, List.drop_append_of_le_length (by omega)] at h
      have hd : (x.cps.toList.drop i ++ r.cps.toList)[0]? = some 59 := by
        have := congrArg (·[0]?) h
        simpa [List.getElem?_take] using this
      rw [List.getElem?_append_left (by rw [List.length_drop]; omega), List.getElem?_drop] at hd
      exact absurd rfl (hx 59 (List.mem_of_getElem? (by simpa using hd)))
    · exact c
  rcases PyProof.Rows.split_head (x ++ r) scT (by decide +kernel) z hz with ⟨e, hn⟩ | ⟨i, e, hi, hm⟩
  · rcases hr with rfl | ⟨r', rfl⟩
    · rw [e]
      congr 1
    · exfalso
      refine hn x.cps.toList.length ⟨?_, ?_⟩
      · rw [len_app, len_app]
        show x.cps.toList.length + scT.length ≤ x.cps.size + (scT.length + r'.length)
        rw [Array.length_toList]; omega
      · rw [sub_list, hl, List.drop_left]
        show ((scT.cps ++ r'.cps).toList).take 2 = _
        rw [Array.toList_append, show scT.cps.toList = [59, 32] by decide]
        rfl
  · have g := ge i hi
    rcases hr with rfl | ⟨r', rfl⟩
    · exfalso
      obtain ⟨h1, _⟩ := hi
      rw [len_app, show (Str.ofString "").length = 0 from rfl, show scT.length = 2 by decide] at h1
      rw [Array.length_toList] at g
      have : x.length = x.cps.size := rfl
      omega
    · have le : i ≤ x.cps.toList.length := by
        rcases Nat.lt_or_ge x.cps.toList.length i with c | c
        · exfalso
          refine hm _ c ⟨?_, ?_⟩
          · rw [len_app, len_app]
            show x.cps.toList.length + scT.length ≤ x.cps.size + (scT.length + r'.length)
            rw [Array.length_toList]; omega
          · rw [sub_list, hl, List.drop_left]
            show ((scT.cps ++ r'.cps).toList).take 2 = _
            rw [Array.toList_append, show scT.cps.toList = [59, 32] by decide]
            rfl
        · exact c
      have ei : i = x.cps.toList.length := by omega
      rw [e, ei]
      congr 1
      show (⟨((x ++ (scT ++ r')).cps).extract 0 _⟩ : Str) = x
      have : ((x ++ (scT ++ r')).cps).extract 0 x.cps.toList.length = x.cps := by
        rw [← Array.toList_inj, Array.toList_extract, hl]
        unfold List.extract
        simp
      rw [this]
theorem nat_sc (m : Nat) : noSc (Str.ofString (toString ((m : Nat) : Int))) := fun c hc => by
  rw [PySem.W.KIN.signs_num] at hc
  obtain ⟨ch, h1, rfl⟩ := List.mem_map.mp hc
  have := Nat.isDigit_of_mem_toDigits (b := 10) (by decide) (by decide) h1
  intro e
  have e2 : ch = Char.ofNat 59 := by rw [← e, Char.ofNat_toNat]
  subst e2
  revert this
  decide
theorem int_sc {i : Int} (h : -5 ≤ i) : noSc (txtI i) := by
  rcases Int.lt_or_le i 0 with c | c
  · have : i = -5 ∨ i = -4 ∨ i = -3 ∨ i = -2 ∨ i = -1 := by omega
    unfold noSc txtI
    rcases this with rfl | rfl | rfl | rfl | rfl <;> decide
  · obtain ⟨m, rfl⟩ : ∃ m : Nat, i = (m : Int) := ⟨i.toNat, by omega⟩
    exact nat_sc m
theorem str_assoc (a b c : Str) : a ++ b ++ c = a ++ (b ++ c) := by
  show (⟨a.cps ++ b.cps ++ c.cps⟩ : Str) = ⟨a.cps ++ (b.cps ++ c.cps)⟩
  rw [Array.append_assoc]
theorem str_app0 (a : Str) : a ++ Str.ofString "" = a := by
  show (⟨a.cps ++ #[]⟩ : Str) = a
  rw [Array.append_empty]
theorem str_0app (a : Str) : Str.ofString "" ++ a = a := by
  show (⟨#[] ++ a.cps⟩ : Str) = a
  rw [Array.empty_append]
def stepT (t : Str) (row : List D) : Str := t ++ scT ++ lineT row
def rowsT : List (List D) → Str
  | [] => Str.ofString "none"
  | r :: rs => rs.foldl stepT (lineT r)
theorem fold_step : ∀ (rs : List (List D)) (t : Str), rs.foldl stepT t = t ++ rs.foldl stepT (Str.ofString "")
  | [], t => (str_app0 t).symm
  | r :: rs, t => by
    rw [List.foldl_cons, List.foldl_cons, fold_step rs (stepT t r), fold_step rs (stepT (Str.ofString "") r)]
    unfold stepT
    rw [str_0app, ← str_assoc, ← str_assoc]
theorem letT_sc (a : Int) : noSc (letT a) := fun c hc => by
  have hc : c ∈ [(Str.ofString "ABCDEFGHIJKLMNOPQRSTUVWXYZ").cps.toList.getD a.toNat 0] := hc
  rw [List.mem_singleton, List.getD_eq_getElem?_getD] at hc
  cases e : (Str.ofString "ABCDEFGHIJKLMNOPQRSTUVWXYZ").cps.toList[a.toNat]? with
  | none => rw [e] at hc; rw [hc]; decide
  | some x =>
    rw [e] at hc
    have hm := List.mem_of_getElem? e
    have all : ∀ c ∈ (Str.ofString "ABCDEFGHIJKLMNOPQRSTUVWXYZ").cps.toList, c ≠ 59 := by decide
    rw [hc]
    exact all x hm
theorem thT_sc {d : D} (h : Thg d) : noSc (thT d) := by
  cases h with
  | num i h => exact int_sc h.1
  | bin a p ha hp =>
    refine (letT_sc a).app ?_
    unfold figT
    split
    · exact noSc.app (by unfold noSc; decide) (int_sc (by omega))
    · exact int_sc (by omega)
  | txt z h =>
    simp only [List.mem_cons, List.not_mem_nil, or_false] at h
    unfold noSc
    rcases h with rfl | rfl | rfl | rfl <;> decide
theorem addT_sc {t : Str} {d : D} (a : noSc t) (h : Thg d) : noSc (addT t d) := by
  unfold addT
  refine noSc.app ?_ (thT_sc h)
  split
  · exact a
  · exact a.app (by unfold noSc; decide)
theorem lineT_sc {ds : List D} (h : ∀ d ∈ ds, Thg d) : noSc (lineT ds) := by
  have key : ∀ (ds : List D) (t : Str), noSc t → (∀ d ∈ ds, Thg d) → noSc (ds.foldl addT t) := by
    intro ds
    induction ds with
    | nil => intro t a _; exact a
    | cons d ds ih => intro t a h; rw [List.foldl_cons]; exact ih _ (addT_sc a (h d (by simp))) fun e he => h e (by simp [he])
  exact key ds _ (by unfold noSc; decide) h
theorem rows_head {rows : List (List D)} (h : ∀ r ∈ rows, RowOk r) : (Txt.split (rowsT rows) scT)[0]? = some (rowsT (rows.take 1)) := by
  cases rows with
  | nil => decide +kernel
  | cons r rs =>
    show (Txt.split (rs.foldl stepT (lineT r)) scT)[0]? = some (lineT r)
    rw [fold_step]
    refine head_split (lineT_sc (h r (by simp)).ths) ?_
    cases rs with
    | nil => exact .inl rfl
    | cons q rs =>
      refine .inr ⟨lineT q ++ rs.foldl stepT (Str.ofString ""), ?_⟩
      rw [List.foldl_cons, fold_step]
      unfold stepT
      rw [str_0app, str_assoc]
theorem step_len {rows : List (List D)} (h : ∀ r ∈ rows, RowOk r) : ∀ {t : Str}, (rows.foldl stepT t).length ≤ t.length + 46 * rows.length := by
  induction rows with
  | nil => intro t; simp
  | cons r rs ih =>
    intro t
    have a := ih (fun q hq => h q (by simp [hq])) (t := stepT t r)
    have o := h r (by simp)
    have b := lineT_len o.ths
    have := o.len
    rw [List.foldl_cons, List.length_cons]
    unfold stepT at a ⊢
    rw [len_app, len_app, show scT.length = 2 by decide] at a
    omega
theorem shal_row {row : List D} (h : RowOk row) : shal 20 (.tup row) = true := by
  show row.all (shal 19) = true
  rw [List.all_eq_true]
  intro d hd
  cases h.ths d hd with
  | num i _ => rfl
  | bin a p _ _ => rfl
  | txt z _ => rfl
theorem shal_rows {rows : List (List D)} (h : ∀ r ∈ rows, RowOk r) : (rows.map D.tup).all (shal 20) = true := by
  rw [List.all_eq_true]
  intro d hd
  obtain ⟨r, hr, rfl⟩ := List.mem_map.mp hd
  exact shal_row (h r hr)
theorem x_sl_l {p : Addr} {xs : List D} {lo hi : Option Int} (h : lsOf G p = some xs) : rSl3 (.ref p) lo hi G R = ∀ q, G q = none → R (.ref q) (updG G q (.lst (cutD xs lo hi))) := by
  unfold rSl3
  simp only [h]
theorem cut_one {α : Type} {xs : List α} : cutD xs (some 1) none = xs.tail := by
  unfold L2.cutD
  have e := HT.sIx_nat xs.length 0 1
  rw [show ((1 : Nat) : Int) = 1 from rfl] at e
  rw [e, HT.sIx_none]
  cases xs with
  | nil => rfl
  | cons x r =>
    have : min 1 (x :: r).length = 1 := by simp
    rw [this]
    simp
theorem cut_one_hi {α : Type} {xs : List α} : cutD xs none (some 1) = xs.take 1 := by
  unfold L2.cutD
  have e := HT.sIx_nat xs.length xs.length 1
  rw [show ((1 : Nat) : Int) = 1 from rfl] at e
  rw [e, HT.sIx_none, List.drop_zero, Nat.sub_zero]
  cases xs with
  | nil => rfl
  | cons x r =>
    have : min 1 (x :: r).length = 1 := by simp
    rw [this]
theorem law_end {F : Ends3} {ex : St3 → EXK} {p : Addr} {rows : List (List D)} {r0 r1 r3 r4 r5 r6 r8 r9 : Option D} (hw : ∀ {G : Gp} {R : VK3} {EX : EXK} {l : Addr} {rows : List (List D)}, lsOf G l = some (rows.map D.tup) → (∀ r ∈ rows, RowOk r) → rows.length ≤ 60 → (∀ G', Le G G' → R (.str (rowsT rows)) G') → sp_rows_text K A [.ref l] G R EX) (hp : lsOf G p = some (rows.map D.tup)) (ok : ∀ r ∈ rows, RowOk r) (rl : rows.length ≤ 60) (h : ∀ G', F.rt (.bl true) G') : t_law_7 K A ex F [r0, r1, some (.ref p), r3, r4, r5, r6, some (.str (rowsT rows)), r8, r9] G := by
  have big : 10000 < sizeLine := by decide
  have dl : (rowsT rows).length ≤ 3000 := by
    cases rows with
    | nil => decide
    | cons r rs =>
      have a := step_len (rows := rs) (fun q hq => ok q (by simp [hq])) (t := lineT r)
      have o := ok r (by simp)
      have b := lineT_len o.ths
      have := o.len
      rw [List.length_cons] at rl
      show (rs.foldl stepT (lineT r)).length ≤ 3000
      omega
  (simp (implicitDefEqProofs := false) only [t_law_7]; repeat (first | (walk_at "wp") | (simp (implicitDefEqProofs := false) only [t_law_7])))
  rw [x_list_r hp]
  intro l nl
  have l1 : Le G (updG G l (.lst (rows.map D.tup))) := .new nl
  (simp (implicitDefEqProofs := false) only [t_law_8]; repeat (first | (walk_at "wp") | (simp (implicitDefEqProofs := false) only [t_law_8])))
  refine hw lsOf_upd ok rl fun G2 l2 => ?_
  have hp2 := lsOf_le (l1.trans l2) hp
  have hl2 : lsOf G2 l = some (rows.map D.tup) := lsOf_le l2 lsOf_upd
  (simp (implicitDefEqProofs := false) only [t_law_9]; repeat (first | (walk_at "wp") | (simp (implicitDefEqProofs := false) only [t_law_9])))
  rw [beq_self_eq_true]
  (repeat (walk_at "wp"))
  rw [ne_ref_lst hl2 hp2 (shal_rows ok) (shal_rows ok), eqPs_refl (n := 20) fun x hx => List.all_eq_true.mp (shal_rows ok) x hx]
  (simp (implicitDefEqProofs := false) only [t_law_10]; repeat (first | (walk_at "wp") | (simp (implicitDefEqProofs := false) only [t_law_10])))
  rw [x_sl_l hp2]
  intro q nq
  rw [cut_one_hi, ← List.map_take]
  refine hw lsOf_upd (fun r hr => ok r (List.mem_of_mem_take hr)) (by rw [List.length_take]; omega) fun G3 l3 => ?_
  (repeat (walk_at "wp"))
  have sp : r_split (.str (rowsT rows)) [.str scT] G3 = fun R => ∀ q, G3 q = none → R (.ref q) (updG G3 q (.lst ((Txt.split (rowsT rows) scT).map D.str))) := by
    funext R
    have := PyProof.Rows.split_le (rowsT rows) scT
    exact propext ⟨fun z => z.2.2.2, fun z => ⟨by decide, by omega, by omega, z⟩⟩
  rw [sp]
  intro q2 nq2
  rw [x_ix_r lsOf_upd (d := .str (rowsT (rows.take 1))) (by rw [show (0 : Int) = ((0 : Nat) : Int) from rfl, at_nat, List.getElem?_map, rows_head ok]; rfl)]
  (repeat (walk_at "wp"))
  rw [beq_self_eq_true]
  (repeat (walk_at "wp"))
  intro q3 nq3
  refine hw (rows := []) lsOf_upd (fun r hr => by cases hr) (by simp) fun G4 l4 => ?_
  (repeat (walk_at "wp"))
  exact h _
theorem w_law {a : Addr} {ns : List Int} (hw : ∀ {G : Gp} {R : VK3} {EX : EXK} {l : Addr} {rows : List (List D)}, lsOf G l = some (rows.map D.tup) → (∀ r ∈ rows, RowOk r) → rows.length ≤ 60 → (∀ G', Le G G' → R (.str (rowsT rows)) G') → sp_rows_text K A [.ref l] G R EX) (hG : G a = some (.rol (ns.map D.int))) (h : ∀ G', R (.bl true) G') : sp_law K A [.ref a] G R EX := by
  have big : 10000 < sizeLine := by decide
  refine ⟨rfl, ?_⟩
  have h' : ∀ G', dropR R (.bl true) G' := fun G' => dropR.here (h G')
  clear h
  show t_law K A _ _ [some (.ref a), none, none, none, none, none, none, none, none, none] G
  have go : ∀ n : Int, 0 ≤ n → n ≤ 60 → t_law_3 K A (fun _ => dropX EX) { nx := fun _ G' => dropR R D.non G', rt := dropR R } [some (.ref a), some (.int n), none, none, none, none, none, none, none, none] G := by
    intro n n0 n1
    (simp (implicitDefEqProofs := false) only [t_law_3]; repeat (first | (walk_at "wp") | (simp (implicitDefEqProofs := false) only [t_law_3])))
    intro p np
    (simp (implicitDefEqProofs := false) only [t_law_4]; repeat (first | (walk_at "wp") | (simp (implicitDefEqProofs := false) only [t_law_4])))
    refine forG_rng (fun k ρ G' => ∃ r3 r4 r5 r6 rows, ρ = [some (.ref a), some (.int n), some (.ref p), r3, r4, r5, r6, none, none, none] ∧ HS G p (rows.map D.tup) G' ∧ (∀ r ∈ rows, RowOk r) ∧ rows.length = k) ⟨_, _, _, _, [], rfl, .mk0, (fun r hr => by cases hr), rfl⟩ (fun k ρ G' hk h => ?_) fun ρ G' h => ?_
    · obtain ⟨_, _, _, _, rows, rfl, s, ok, rl⟩ := h
      (repeat (walk_at "wp"))
      refine law_row (s.leG np _ _ hG) s.1 (by omega) fun row G2 r4 r5 r6 o s2 => ⟨_, _, _, _, rows ++ [row], rfl, s.trans s2, fun r hr => ?_, by rw [List.length_append, rl]; rfl⟩
      rcases List.mem_append.mp hr with hr | hr
      · exact ok r hr
      · rw [List.mem_singleton] at hr; exact hr ▸ o
    · obtain ⟨_, _, _, _, rows, rfl, s, ok, rl⟩ := h
      have rl2 : rows.length ≤ 60 := by omega
      have hp := lsOf_lst s.1
      (simp (implicitDefEqProofs := false) only [t_law_5, t_law_6]; repeat (first | (walk_at "wp") | (simp (implicitDefEqProofs := false) only [t_law_5, t_law_6])))
      intro e ne
      have le : Le G' (updG G' e (.lst [])) := .new ne
      have hpe := lsOf_le le hp
      rw [ne_ref_lst hpe lsOf_upd (shal_rows ok) rfl]
      cases rows with
      | nil =>
        (repeat (walk_at "wp"))
        exact law_end (rows := []) hw hpe ok (by simp) h'
      | cons r0 rs =>
        have ef : eqPs ((r0 :: rs).map D.tup) [] = false := rfl
        rw [ef]
        (repeat (walk_at "wp"))
        rw [x_ix_r hpe (d := .tup r0) (by rw [List.map_cons, at0])]
        have o0 := ok r0 (by simp)
        refine w_line o0.ths o0.len ?_
        (simp (implicitDefEqProofs := false) only [t_law_6y_2]; repeat (first | (walk_at "wp") | (simp (implicitDefEqProofs := false) only [t_law_6y_2])))
        rw [x_sl_l hpe]
        intro q nq
        rw [cut_one, List.map_cons, List.tail_cons]
        have lq := le.trans (Le.new (o := .lst (rs.map D.tup)) nq)
        rw [srcSK_ref lsOf_upd]
        have b0 := lineT_len o0.ths
        have l0 := o0.len
        rw [List.length_cons] at rl2
        refine forG_lst (fun k ρ G2 => ∃ r3 r4 r5 r6, ρ = [some (.ref a), some (.int n), some (.ref p), r3, r4, r5, r6, some (.str ((rs.take k).foldl stepT (lineT r0))), none, none] ∧ Le G' G2 ∧ lsOf G2 q = some (rs.map D.tup)) ⟨_, _, _, _, rfl, lq, lsOf_upd⟩ (fun k ρ G2 h => h.choose_spec.choose_spec.choose_spec.choose_spec.2.2) (fun k d ρ G2 hd h => ?_) fun ρ G2 h => ?_
        · obtain ⟨_, _, _, _, rfl, l2, h2⟩ := h
          rw [List.getElem?_map] at hd
          obtain ⟨row, hr, rfl⟩ := Option.map_eq_some_iff.mp hd
          have o := ok row (by simp [List.mem_of_getElem? hr])
          have tl := step_len (rows := rs.take k) (fun q hq => ok q (by simp [List.mem_of_mem_take hq])) (t := lineT r0)
          rw [List.length_take] at tl
          have b := lineT_len o.ths
          have ol := o.len
          have kr : k < rs.length := (List.getElem?_eq_some_iff.mp hr).1
          have en : (rs.take (k + 1)).foldl stepT (lineT r0) = (rs.take k).foldl stepT (lineT r0) ++ scT ++ lineT row := by
            rw [List.take_succ, hr]
            show List.foldl stepT _ (_ ++ [row]) = _
            rw [List.foldl_append]
            rfl
          generalize (rs.take k).foldl stepT (lineT r0) = t at tl en ⊢
          (simp (implicitDefEqProofs := false) only [t_law_6y_2b]; repeat (first | (walk_at "wp") | (simp (implicitDefEqProofs := false) only [t_law_6y_2b])))
          rw [x_add_ss' (by rw [show (Str.ofString "; ").length = 2 by decide]; omega)]
          refine w_line o.ths o.len ?_
          rw [x_add_ss' (by rw [len_app, show (Str.ofString "; ").length = 2 by decide]; omega)]
          exact ⟨_, _, _, _, by rw [en], l2, h2⟩
        · obtain ⟨_, _, _, _, rfl, l2, h2⟩ := h
          rw [List.length_map, List.take_length]
          exact law_end (rows := r0 :: rs) hw (lsOf_le l2 hp) ok (by rw [List.length_cons]; omega) h'
  (simp (implicitDefEqProofs := false) only [t_law]; repeat (first | (walk_at "wp") | (simp (implicitDefEqProofs := false) only [t_law])))
  refine w_cell (k := 0) hG (by omega) ?_
  (simp (implicitDefEqProofs := false) only [t_law_2]; repeat (first | (walk_at "wp") | (simp (implicitDefEqProofs := false) only [t_law_2])))
  refine w_cell (k := 0) hG (by omega) ?_
  (repeat (walk_at "wp"))
  exact iteBool (fun _ => go _ (by omega) (by omega)) fun _ => go _ (by omega) (by omega)
def isW (d : D) (a b : Int) : Bool := match d with
  | .int i => decide (a ≤ i) && decide (i ≤ b)
  | _ => false
theorem w_is_whole {d : D} {a b : Int} (hd : kn G d) (h : R (.bl (isW d a b)) G) : sp_is_whole K A [d, .int a, .int b] G R EX := by
  refine ⟨rfl, ?_⟩
  replace h := dropR.here h
  show t_is_whole K A _ _ [some d, some (.int a), some (.int b)] G
  cases d
  case ref q => (simp (implicitDefEqProofs := false) only [t_is_whole, isi_kn_int hd]; repeat (first | (walk_at "wp") | (simp (implicitDefEqProofs := false) only [t_is_whole, isi_kn_int hd]))); exact h
  case ty n => simp [kn, tyD] at hd
  all_goals (simp (implicitDefEqProofs := false) only [t_is_whole]; repeat (first | (walk_at "wp") | (simp (implicitDefEqProofs := false) only [t_is_whole])))
  case int i =>
    by_cases c : a ≤ i
    · simp only [c, decide_true, if_true]
      simpa [isW, c] using h
    · simp only [c, decide_false, Bool.false_eq_true, if_false]
      simpa [isW, c] using h
  all_goals exact h
def isP (d : D) (n a b : Int) : Bool := match d with
  | .tup [x, y] => isW x 0 (n - 1) && isW y a b
  | _ => false
theorem w_is_pair {d : D} {n a b : Int} (hd : kn G d) (hc : ∀ x y, d = .tup [x, y] → kn G x ∧ kn G y) (h : R (.bl (isP d n a b)) G) : sp_is_pair K A [d, .int n, .int a, .int b] G R EX := by
  refine ⟨rfl, ?_⟩
  replace h := dropR.here h
  show t_is_pair K A _ _ [some d, some (.int n), some (.int a), some (.int b)] G
  cases d
  case ref q => (simp (implicitDefEqProofs := false) only [t_is_pair, isi_kn_tuple hd]; repeat (first | (walk_at "wp") | (simp (implicitDefEqProofs := false) only [t_is_pair, isi_kn_tuple hd]))); exact h
  case ty n => simp [kn, tyD] at hd
  case tup xs =>
    (simp (implicitDefEqProofs := false) only [t_is_pair]; repeat (first | (walk_at "wp") | (simp (implicitDefEqProofs := false) only [t_is_pair])))
    match xs, h, hc with
    | [], h, _ => exact h
    | [x], h, _ => exact h
    | x :: y :: z :: r, h, _ =>
      have e : ((((x :: y :: z :: r).length : Nat) : Int) == 2) = false := by simp; omega
      simp only [e]
      exact h
    | [x, y], h, hc =>
      obtain ⟨h1, h2⟩ := hc x y rfl
      (simp (implicitDefEqProofs := false) only [t_is_pair_2]; repeat (first | (walk_at "wp") | (simp (implicitDefEqProofs := false) only [t_is_pair_2])))
      refine w_is_whole h1 ?_
      (repeat (walk_at "wp"))
      refine iteBool (fun e => w_is_whole h2 ?_) fun e => ?_
      · simpa [isP, e] using h
      · simpa [isP, e] using h
  all_goals (simp (implicitDefEqProofs := false) only [t_is_pair]; repeat (first | (walk_at "wp") | (simp (implicitDefEqProofs := false) only [t_is_pair])))
  all_goals exact h
theorem isP_of {d : D} {n a b : Int} (h : isP d n a b = true) : ∃ i j : Int, d = .tup [.int i, .int j] ∧ 0 ≤ i ∧ i ≤ n - 1 ∧ a ≤ j ∧ j ≤ b := by
  unfold isP at h
  split at h
  · rename_i x y
    rw [Bool.and_eq_true] at h
    obtain ⟨h1, h2⟩ := h
    unfold isW at h1 h2
    split at h1
    · split at h2
      · simp only [Bool.and_eq_true, decide_eq_true_eq] at h1 h2
        exact ⟨_, _, rfl, h1.1, h1.2, h2.1, h2.2⟩
      · cases h2
    · cases h1
  · cases h
theorem isP_ii {i j n a b : Int} : isP (.tup [.int i, .int j]) n a b = (decide (0 ≤ i) && decide (i ≤ n - 1) && (decide (a ≤ j) && decide (j ≤ b))) := rfl
theorem at_L {i : Int} (h0 : 0 ≤ i) (h1 : i ≤ 25) : atI ("ABCDEFGHIJKLMNOPQRSTUVWXYZ" : Str).cps.toList i = some (65 + i.toNat) := by
  obtain ⟨n, rfl⟩ := Int.eq_ofNat_of_zero_le h0
  have z : ∀ n : Fin 26, atI ("ABCDEFGHIJKLMNOPQRSTUVWXYZ" : Str).cps.toList ((n.val : Nat) : Int) = some (65 + n.val) := by decide +kernel
  exact z ⟨n, by omega⟩
theorem at_F {i : Int} (h0 : 0 ≤ i) (h1 : i ≤ 9) : atI ("0123456789" : Str).cps.toList i = some (48 + i.toNat) := by
  obtain ⟨n, rfl⟩ := Int.eq_ofNat_of_zero_le h0
  have z : ∀ n : Fin 10, atI ("0123456789" : Str).cps.toList ((n.val : Nat) : Int) = some (48 + n.val) := by decide +kernel
  exact z ⟨n, by omega⟩
theorem len_L : (("ABCDEFGHIJKLMNOPQRSTUVWXYZ" : Str).length ≤ sizeLine) = True := eq_true (by decide +kernel)
theorem len_F : (("0123456789" : Str).length ≤ sizeLine) = True := eq_true (by decide +kernel)
theorem ix_L {i : Int} (h0 : 0 ≤ i) (h1 : i ≤ 25) : rIx3 (.str "ABCDEFGHIJKLMNOPQRSTUVWXYZ") (.int i) G R = R (.str ⟨#[65 + i.toNat]⟩) G := by
  rw [x_ix_s (at_L h0 h1), len_L, true_and]
theorem ix_F {i : Int} (h0 : 0 ≤ i) (h1 : i ≤ 9) : rIx3 (.str "0123456789") (.int i) G R = R (.str ⟨#[48 + i.toNat]⟩) G := by
  rw [x_ix_s (at_F h0 h1), len_F, true_and]
theorem x_add_11 {a b : Nat} : rAdd3 (.str ⟨#[a]⟩) (.str ⟨#[b]⟩) G R = R (.str ⟨#[a, b]⟩) G := x_add_s' (l := [a]) (m := [b]) (show 2 ≤ sizeLine by decide)
theorem x_add_21 {a b c : Nat} : rAdd3 (.str ⟨#[a, b]⟩) (.str ⟨#[c]⟩) G R = R (.str ⟨#[a, b, c]⟩) G := x_add_s' (l := [a, b]) (m := [c]) (show 3 ≤ sizeLine by decide)
/-- the name of a pair -/
def nm (i j : Int) : Str := ⟨#[65 + i.toNat, 48 + (j / 10).toNat, 48 + (j % 10).toNat]⟩
/-! ### the program's side -/
theorem txt_ne {i : Int} (h : 0 ≤ i) : txtI i ≠ Str.ofString "" := by
  obtain ⟨n, rfl⟩ := Int.eq_ofNat_of_zero_le h
  intro e
  have e1 := congrArg (fun z : Str => z.cps.toList) e
  have e2 : (Nat.toDigits 10 n).map Char.toNat = [] := (signs_num n).symm.trans e1
  exact Nat.toDigits_ne_nil (List.map_eq_nil_iff.mp e2)
theorem neg_cases {i : Int} (h : -5 ≤ i) (h0 : i < 0) : i = -1 ∨ i = -2 ∨ i = -3 ∨ i = -4 ∨ i = -5 := by omega
theorem join_neg {i : Int} (h : -5 ≤ i) (h0 : i < 0) : Txt.join (Str.ofString "") [Str.ofString "-", txtI (-i)] = txtI i := by
  rcases neg_cases h h0 with rfl | rfl | rfl | rfl | rfl <;> decide +kernel
theorem join_one {z y : Str} : Txt.join z [y] = y := rfl
theorem txt_ne' {i : Int} (h : -5 ≤ i) : txtI i ≠ Str.ofString "" := by
  by_cases c : 0 ≤ i
  · exact txt_ne c
  · rcases neg_cases h (by omega) with rfl | rfl | rfl | rfl | rfl <;> decide +kernel
theorem x_jrev {to te : TE3} {ρ : St3} : tJRev3 to te ρ G R = to ρ G fun x G1 => tyOk "str" G1 x ∧ te ρ G1 fun y G2 => jrevK R G2 x y := rfl
theorem jrev_at {z : Str} {q : Addr} {ys : List Str} (h : lsOf G q = some (ys.map D.str)) (hl : (ys.reverse.map (·.length)).sum + ys.reverse.length * z.length ≤ 16777216) (k : R (.str (Txt.join z ys.reverse)) G) : jrevK R G (.str z) (.ref q) := by
  have e : strsD (ys.map D.str) = some ys := by
    clear h hl k
    induction ys with
    | nil => rfl
    | cons y ys ih => show (strsD (ys.map D.str)).map (y :: ·) = _; rw [ih]; rfl
  show (match (lsOf G q).bind strsD with | some ys => _ | none => _)
  rw [h]
  show (match strsD (ys.map D.str) with | some ys => _ | none => _)
  rw [e]
  exact ⟨hl, k⟩
theorem join_at {z : Str} {q : Addr} {ys : List Str} (h : lsOf G q = some (ys.map D.str)) (hl : (ys.map (·.length)).sum + ys.length * z.length ≤ 16777216) (k : R (.str (Txt.join z ys)) G) : r_join (.str z) [.ref q] G R := by
  have e : strsD (ys.map D.str) = some ys := by
    clear h hl k
    induction ys with
    | nil => rfl
    | cons y ys ih => show (strsD (ys.map D.str)).map (y :: ·) = _; rw [ih]; rfl
  show (match (lsOf G q).bind strsD with | some ys => _ | none => _)
  rw [h]
  show (match strsD (ys.map D.str) with | some ys => _ | none => _)
  rw [e]
  exact ⟨hl, k⟩
theorem w_number {i : Int} (hi : -5 ≤ i ∧ i ≤ 1000000) (h : ∀ G', Le G G' → R (.str (txtI i)) G') : sp_number_text K A [.int i] G R EX := by
  have big : 10000 < sizeLine := by decide
  refine ⟨rfl, ?_⟩
  have h' : ∀ G', Le G G' → dropR R (.str (txtI i)) G' := fun G' l => dropR.here (h G' l)
  clear h
  show t_number_text K A _ _ [some (.int i), none, none, none] G
  (simp (implicitDefEqProofs := false) only [t_number_text, t_number_text_2, t_number_text_3]; repeat (first | (walk_at "wp") | (simp (implicitDefEqProofs := false) only [t_number_text, t_number_text_2, t_number_text_3])))
  intro p np
  simp only [t_number_text_4, x_seq, x_while]
  generalize ea : (if i < 0 then -i else i) = a
  have ha : 0 ≤ a ∧ a ≤ 1000000 := by split at ea <;> omega
  refine ⟨fun m ρ G' => ρ = [some (.int i), some (.int (10 ^ 60)), some (.int a), some (.ref p)] ∧ HS G p [] G', ⟨0, rfl, .mk0⟩, fun m ρ G' ⟨e, s⟩ => ?_⟩
  subst e
  (repeat (walk_at "wp"))
  rw [if_neg (by simp; omega)]
  have hs : ∀ {G : Gp} {R : VK3}, r_str [.int a] G R = R (.str (txtI a)) G := fun {G R} => propext ⟨fun z => z.2, fun z => ⟨log_small (by omega), z⟩⟩
  (simp (implicitDefEqProofs := false) only [t_number_text_5, hs]; repeat (first | (walk_at "wp") | (simp (implicitDefEqProofs := false) only [t_number_text_5, hs])))
  refine ⟨by rw [x_tyLst, lsOf_lst s.1]; rfl, ?_⟩
  rw [x_append s.1 (by show 0 < sizeLine; omega)]
  (simp (implicitDefEqProofs := false) only [t_number_text_6]; repeat (first | (walk_at "wp") | (simp (implicitDefEqProofs := false) only [t_number_text_6])))
  have s1 : HS G p [.str (txtI a)] (updG G' p (.lst ([] ++ [D.str (txtI a)]))) := s.snd
  have tl := txtI_len (i := a) (by omega)
  refine iteBool (fun c => ?_) fun c => ?_
  · have c : i < 0 := by simpa using c
    refine ⟨by rw [x_tyLst, lsOf_lst s1.1]; rfl, ?_⟩
    rw [x_append s1.1 (by show 1 < sizeLine; omega)]
    have s2 : HS G p [.str (txtI a), .str (Str.ofString "-")] (updG _ p (.lst ([D.str (txtI a)] ++ [D.str (Str.ofString "-")]))) := s1.snd
    (simp (implicitDefEqProofs := false) only [t_number_text_7, x_jrev]; repeat (first | (walk_at "wp") | (simp (implicitDefEqProofs := false) only [t_number_text_7, x_jrev])))
    refine jrev_at (ys := [txtI a, Str.ofString "-"]) (lsOf_lst s2.1) ?_ ?_
    · show (Str.ofString "-").length + ((txtI a).length + 0) + 2 * (Str.ofString "").length ≤ 16777216
      rw [show (Str.ofString "-").length = 1 from rfl, show (Str.ofString "").length = 0 from rfl]
      omega
    · rw [if_pos c] at ea
      subst ea
      show dropR R (.str (Txt.join _ [Str.ofString "-", txtI (-i)])) _
      rw [join_neg hi.1 c]
      exact h' _ (s2.leG np)
  · have c : ¬ i < 0 := by simpa using c
    (simp (implicitDefEqProofs := false) only [t_number_text_7, x_jrev]; repeat (first | (walk_at "wp") | (simp (implicitDefEqProofs := false) only [t_number_text_7, x_jrev])))
    refine jrev_at (ys := [txtI a]) (lsOf_lst s1.1) ?_ ?_
    · show (txtI a).length + 0 + 1 * (Str.ofString "").length ≤ 16777216
      rw [show (Str.ofString "").length = 0 from rfl]
      omega
    · rw [if_neg c] at ea
      subst ea
      exact h' _ (s1.leG np)
theorem join_fold {z y : Str} {ys : List Str} : Txt.join z (y :: ys) = ys.foldl (fun t q => t ++ z ++ q) y := by
  have key : ∀ (ys : List Str) (y : Str), (⟨ys.foldl (fun acc p => acc ++ z.cps ++ p.cps) y.cps⟩ : Str) = ys.foldl (fun t q => t ++ z ++ q) y := by
    intro ys
    induction ys with
    | nil => intro y; rfl
    | cons q ys ih => intro y; exact ih (y ++ z ++ q)
  exact key ys y
theorem nm_name {a p : Int} (ha : 0 ≤ a ∧ a ≤ 25) (hp : 1 ≤ p ∧ p ≤ 99) : nm a p = nameT a p := by
  obtain ⟨n, rfl⟩ := Int.eq_ofNat_of_zero_le ha.1
  obtain ⟨m, rfl⟩ : ∃ m : Nat, p = ((m + 1 : Nat) : Int) := ⟨p.toNat - 1, by omega⟩
  have l : ∀ n : Fin 26, letT ((n.val : Nat) : Int) = ⟨#[65 + n.val]⟩ := by decide +kernel
  have f : ∀ m : Fin 99, figT ((m.val + 1 : Nat) : Int) = ⟨#[48 + (m.val + 1) / 10, 48 + (m.val + 1) % 10]⟩ := by decide +kernel
  have l1 := l ⟨n, by omega⟩
  have f1 := f ⟨m, by omega⟩
  unfold nameT nm
  simp only at l1 f1
  rw [l1, f1]
  have e1 : (((m + 1 : Nat) : Int) / 10).toNat = (m + 1) / 10 := by omega
  have e2 : (((m + 1 : Nat) : Int) % 10).toNat = (m + 1) % 10 := by omega
  rw [e1, e2]
  rfl
theorem w_bin_name {a p : Int} (ha : 0 ≤ a ∧ a ≤ 25) (hp : 1 ≤ p ∧ p ≤ 99) (h : R (.str (nameT a p)) G) : sp_bin_name K A [.tup [.int a, .int p]] G R EX := by
  refine ⟨rfl, ?_⟩
  replace h := dropR.here h
  rw [← nm_name ha hp] at h
  show t_bin_name K A _ _ [some (.tup [.int a, .int p])] G
  (simp (implicitDefEqProofs := false) only [t_bin_name]; repeat (first | (walk_at "wp") | (simp (implicitDefEqProofs := false) only [t_bin_name])))
  refine w_is_pair rfl (fun x y e => by cases e; exact ⟨rfl, rfl⟩) ?_
  rw [isP_ii, decide_eq_true ha.1, decide_eq_true (show a ≤ 26 - 1 by omega), decide_eq_true hp.1, decide_eq_true hp.2]
  (simp (implicitDefEqProofs := false) only [t_bin_name_2]; repeat (first | (walk_at "wp") | (simp (implicitDefEqProofs := false) only [t_bin_name_2])))
  simp only [ix_L ha.1 ha.2, ix_F (show 0 ≤ p / 10 by omega) (show p / 10 ≤ 9 by omega), ix_F (show 0 ≤ p % 10 by omega) (show p % 10 ≤ 9 by omega)]
  simp only [x_add_11, x_add_21]
  exact h
theorem w_thing_text {d : D} (hd : Thg d) (h : ∀ G', Le G G' → R (.str (thT d)) G') : sp_thing_text K A [d] G R EX := by
  refine ⟨rfl, ?_⟩
  have h' : ∀ G', Le G G' → dropR R (.str (thT d)) G' := fun G' l => dropR.here (h G' l)
  clear h
  show t_thing_text K A _ _ [some d] G
  cases hd with
  | num i hi =>
    (simp (implicitDefEqProofs := false) only [t_thing_text, t_thing_text_2]; repeat (first | (walk_at "wp") | (simp (implicitDefEqProofs := false) only [t_thing_text, t_thing_text_2])))
    exact w_number hi h'
  | bin a p ha hp =>
    (simp (implicitDefEqProofs := false) only [t_thing_text]; repeat (first | (walk_at "wp") | (simp (implicitDefEqProofs := false) only [t_thing_text])))
    exact w_bin_name ha hp (h' _ (.refl _))
  | txt z hz =>
    (simp (implicitDefEqProofs := false) only [t_thing_text, t_thing_text_2, t_thing_text_3]; repeat (first | (walk_at "wp") | (simp (implicitDefEqProofs := false) only [t_thing_text, t_thing_text_2, t_thing_text_3])))
    exact h' _ (.refl _)
theorem thT_ne {d : D} (h : Thg d) : thT d ≠ Str.ofString "" := by
  cases h with
  | num i h => exact txt_ne' h.1
  | bin a p ha hp =>
    show nameT a p ≠ _
    rw [← nm_name ha hp]
    intro e
    have := congrArg Str.length e
    exact absurd this (by show (3 : Nat) ≠ 0; decide)
  | txt z h =>
    simp only [List.mem_cons, List.not_mem_nil, or_false] at h
    rcases h with rfl | rfl | rfl | rfl <;> decide
theorem app_ne {a b : Str} (h : b ≠ Str.ofString "") : a ++ b ≠ Str.ofString "" := by
  intro e
  have e1 : a.cps ++ b.cps = #[] := congrArg Str.cps e
  have e2 : b.cps = #[] := (Array.append_eq_empty_iff.mp e1).2
  exact h (by cases b; exact congrArg Str.mk e2)
theorem line_join {r : List D} (hr : RowOk r) : Txt.join (Str.ofString " ") (r.map thT) = lineT r := by
  cases r with
  | nil => exact absurd rfl hr.ne
  | cons d r =>
    have key : ∀ (r : List D) (t : Str), t ≠ Str.ofString "" → (∀ d ∈ r, Thg d) → (r.map thT).foldl (fun t q => t ++ Str.ofString " " ++ q) t = r.foldl addT t := by
      intro r
      induction r with
      | nil => intro t _ _; rfl
      | cons d r ih =>
        intro t ht hd
        have e : addT t d = t ++ Str.ofString " " ++ thT d := by
          unfold addT
          rw [if_neg ht]
        rw [List.map_cons, List.foldl_cons, List.foldl_cons, e]
        exact ih _ (app_ne (thT_ne (hd d (by simp)))) fun e he => hd e (by simp [he])
    have e0 : addT (Str.ofString "") d = thT d := by
      unfold addT
      rw [if_pos rfl, str_0app]
    rw [List.map_cons, join_fold]
    unfold lineT
    rw [List.foldl_cons, e0]
    exact key r _ (thT_ne (hr.ths d (by simp))) fun e he => hr.ths e (by simp [he])
theorem sum_things : ∀ {r : List D}, (∀ d ∈ r, Thg d) → ((r.map thT).map (·.length)).sum ≤ 10 * r.length
  | [], _ => Nat.zero_le _
  | d :: r, h => by
    have a := thT_len (h d (by simp))
    have b := sum_things fun e he => h e (List.mem_cons_of_mem d he)
    simp only [List.map_cons, List.sum_cons, List.length_cons]
    omega
theorem sum_rows : ∀ {rows : List (List D)}, (∀ r ∈ rows, RowOk r) → ((rows.map lineT).map (·.length)).sum ≤ 44 * rows.length
  | [], _ => Nat.zero_le _
  | r :: rs, h => by
    have o := h r (by simp)
    have a := lineT_len o.ths
    have l := o.len
    have b := sum_rows fun e he => h e (List.mem_cons_of_mem r he)
    simp only [List.map_cons, List.sum_cons, List.length_cons]
    omega
theorem w_row {r : List D} (hr : RowOk r) (h : ∀ G', Le G G' → R (.str (lineT r)) G') : sp_row_text K A [.tup r] G R EX := by
  have big : 10000 < sizeLine := by decide
  have rl := hr.len
  refine ⟨rfl, ?_⟩
  have h' : ∀ G', Le G G' → dropR R (.str (lineT r)) G' := fun G' l => dropR.here (h G' l)
  clear h
  show t_row_text K A _ _ [some (.tup r)] G
  (simp (implicitDefEqProofs := false) only [t_row_text]; repeat (first | (walk_at "wp") | (simp (implicitDefEqProofs := false) only [t_row_text])))
  refine comp_map (fun d => .str (thT d)) (by show r.length < _; omega) trivial (fun d hd G' l Q hQ => ?_) fun p hp => ?_
  · (repeat (walk_at "wp"))
    exact w_thing_text (hr.ths d hd) hQ
  · show r_join _ [.ref p] (updG G p (.lst (r.map fun d => D.str (thT d)))) _
    have e : (r.map fun d => D.str (thT d)) = (r.map thT).map D.str := by rw [List.map_map]; rfl
    rw [e]
    have sm := sum_things hr.ths
    refine join_at (ys := r.map thT) lsOf_upd ?_ ?_
    · rw [List.length_map, show (Str.ofString " ").length = 1 from rfl]
      omega
    · rw [line_join hr]
      exact h' _ (.new hp)
theorem w_rows {l : Addr} {rows : List (List D)} (hl : lsOf G l = some (rows.map D.tup)) (ok : ∀ r ∈ rows, RowOk r) (n : rows.length ≤ 60) (h : ∀ G', Le G G' → R (.str (rowsT rows)) G') : sp_rows_text K A [.ref l] G R EX := by
  have big : 10000 < sizeLine := by decide
  refine ⟨rfl, ?_⟩
  have h' : ∀ G', Le G G' → dropR R (.str (rowsT rows)) G' := fun G' l => dropR.here (h G' l)
  clear h
  show t_rows_text K A _ _ [some (.ref l)] G
  (simp (implicitDefEqProofs := false) only [t_rows_text]; repeat (first | (walk_at "wp") | (simp (implicitDefEqProofs := false) only [t_rows_text])))
  rw [x_len_r hl]
  (repeat (walk_at "wp"))
  cases rows with
  | nil =>
    rw [if_pos (by simp)]
    exact h' _ (.refl _)
  | cons r rs =>
    rw [if_neg (by simp; omega)]
    (simp (implicitDefEqProofs := false) only [t_rows_text_2]; repeat (first | (walk_at "wp") | (simp (implicitDefEqProofs := false) only [t_rows_text_2])))
    rw [srcK_ref hl]
    let f : D → D := fun d => match d with | .tup r => .str (lineT r) | _ => .non
    refine comp_map f (by show (List.map D.tup (r :: rs)).length < _; rw [List.length_map]; omega) hl (fun d hd G' le Q hQ => ?_) fun p hp => ?_
    · obtain ⟨q, hq, rfl⟩ := List.mem_map.mp hd
      (repeat (walk_at "wp"))
      exact w_row (ok q hq) hQ
    · show r_join _ [.ref p] (updG G p (.lst ((List.map D.tup (r :: rs)).map f))) _
      have e : (List.map D.tup (r :: rs)).map f = ((r :: rs).map lineT).map D.str := by rw [List.map_map, List.map_map]; rfl
      rw [e]
      have sm := sum_rows ok
      refine join_at (ys := (r :: rs).map lineT) lsOf_upd ?_ ?_
      · rw [List.length_map, show (Str.ofString "; ").length = 2 from rfl]
        omega
      · rw [List.map_cons, join_fold, List.foldl_map]
        exact h' _ (.new hp)
theorem main (T : Txt K mg A) (a : Addr) (ns : List Int) (hl : ns.length ≤ 63) (G : Gp) (hG : G a = some (.rol (ns.map D.int))) : sp_law K A [.ref a] G (fun d _ => d = .bl true) (fun _ _ => False) := w_law (fun hl ok n h => w_rows hl ok n h) hG fun _ => rfl
end
end Law
set_option Elab.async false
set_option linter.all false
set_option maxRecDepth 100000
set_option maxHeartbeats 4000000
namespace Law
open PySem PySem.Spec PyProof.Rows L2 L4
section
variable {P : Program} {w : World} {K : Fg} {mg : Str → Option Value} {base : Heap} {A : Adr}
theorem sc_is_whole : FnScope ["thing", "least", "most"] ["thing", "least", "most"] (defScope s_is_whole) := ⟨rfl, rfl, rfl, by decide +kernel, rfl, by decide +kernel, by decide +kernel⟩
theorem v_is_whole : visOk (S_is_whole K A) (defScope s_is_whole) = true := by kernel_rfl
theorem k_is_whole : kB (S_is_whole K A) 0 c_is_whole (defBody s_is_whole) = true := by kernel_rfl
theorem e_is_whole : (fun EX => mB (S_is_whole K A).gl K (fun _ => EX) c_is_whole) = fun EX => t_is_whole K A (fun _ => EX) := by kernel_rfl
theorem ok_is_whole (T : Txt K mg A) : FnOk false P w K mg base (CX1 P w) 1 A.a_is_whole A.d_is_whole ["thing", "least", "most"] (upSp K (sp_is_whole K A)) := by
  have h := def_cert (qt := false) (P := P) (w := w) (mg := mg) (base := base) (k := 0) (S := S_is_whole K A) (c := c_is_whole) T.F_is_whole sc_is_whole rfl v_is_whole k_is_whole (glc ⟨T.b_int, bt_int⟩
    (glc ⟨T.b_isinstance, bt_isinstance⟩
    (glc ⟨T.b_bool, bt_bool⟩
    gln)))
  rw [e_is_whole] at h
  exact h
theorem sc_is_pair : FnScope ["thing", "aisles", "first", "last"] ["thing", "aisles", "first", "last"] (defScope s_is_pair) := ⟨rfl, rfl, rfl, by decide +kernel, rfl, by decide +kernel, by decide +kernel⟩
theorem v_is_pair : visOk (S_is_pair K A) (defScope s_is_pair) = true := by kernel_rfl
theorem k_is_pair : kB (S_is_pair K A) 0 c_is_pair (defBody s_is_pair) = true := by kernel_rfl
theorem e_is_pair : (fun EX => mB (S_is_pair K A).gl K (fun _ => EX) c_is_pair) = fun EX => t_is_pair K A (fun _ => EX) := by kernel_rfl
theorem ok_is_pair (T : Txt K mg A) : FnOk false P w K mg base (CX1 P w) 2 A.a_is_pair A.d_is_pair ["thing", "aisles", "first", "last"] (upSp K (sp_is_pair K A)) := by
  have h := def_cert (qt := false) (P := P) (w := w) (mg := mg) (base := base) (k := 1) (S := S_is_pair K A) (c := c_is_pair) T.F_is_pair sc_is_pair rfl v_is_pair k_is_pair (glc ⟨T.b_tuple, bt_tuple⟩
    (glc ⟨T.b_isinstance, bt_isinstance⟩
    (glc ⟨T.b_len, bt_len⟩
    (glc ⟨_, _, _, (ok_is_whole T).mono (by decide), T.m_is_whole, T.F_is_whole.kp, T.B_is_whole⟩
    gln))))
  rw [e_is_pair] at h
  exact h
theorem sc_bin_name : FnScope ["spot"] ["spot"] (defScope s_bin_name) := ⟨rfl, rfl, rfl, by decide +kernel, rfl, by decide +kernel, by decide +kernel⟩
theorem v_bin_name : visOk (S_bin_name K A) (defScope s_bin_name) = true := by kernel_rfl
theorem k_bin_name : kB (S_bin_name K A) 0 c_bin_name (defBody s_bin_name) = true := by kernel_rfl
theorem e_bin_name : (fun EX => mB (S_bin_name K A).gl K (fun _ => EX) c_bin_name) = fun EX => t_bin_name K A (fun _ => EX) := by kernel_rfl
theorem ok_bin_name (T : Txt K mg A) : FnOk false P w K mg base (CX1 P w) 3 A.a_bin_name A.d_bin_name ["spot"] (upSp K (sp_bin_name K A)) := by
  have h := def_cert (qt := false) (P := P) (w := w) (mg := mg) (base := base) (k := 2) (S := S_bin_name K A) (c := c_bin_name) T.F_bin_name sc_bin_name rfl v_bin_name k_bin_name (glc (gcI T.g_MOST_AISLES)
    (glc (gcI T.g_MOST_PLACES)
    (glc ⟨_, _, _, (ok_is_pair T).mono (by decide), T.m_is_pair, T.F_is_pair.kp, T.B_is_pair⟩
    (glc ⟨T.m_NoBin, T.x_NoBin, T.cs_NoBin, T.ty_NoBin, T.be_NoBin⟩
    (glc (gcS T.g_LETTERS)
    (glc (gcS T.g_FIGURES)
    gln))))))
  rw [e_bin_name] at h
  exact h
theorem sc_number_text : FnScope ["number", "step", "left", "parts"] ["number"] (defScope s_number_text) := ⟨rfl, rfl, rfl, by decide +kernel, rfl, by decide +kernel, by decide +kernel⟩
theorem v_number_text : visOk (S_number_text K A) (defScope s_number_text) = true := by kernel_rfl
theorem k_number_text : kB (S_number_text K A) 0 c_number_text (defBody s_number_text) = true := by kernel_rfl
theorem e_number_text : (fun EX => mB (S_number_text K A).gl K (fun _ => EX) c_number_text) = fun EX => t_number_text K A (fun _ => EX) := by kernel_rfl
theorem ok_number_text (T : Txt K mg A) : FnOk false P w K mg base (CX1 P w) 1 A.a_number_text A.d_number_text ["number"] (upSp K (sp_number_text K A)) := by
  have h := def_cert (qt := false) (P := P) (w := w) (mg := mg) (base := base) (k := 0) (S := S_number_text K A) (c := c_number_text) T.F_number_text sc_number_text rfl v_number_text k_number_text (glc ⟨T.b_abs, bt_abs⟩
    (glc ⟨T.b_str, bt_str⟩
    (glc ⟨T.b_reversed, bt_reversed⟩
    gln)))
  rw [e_number_text] at h
  exact h
theorem sc_thing_text : FnScope ["thing"] ["thing"] (defScope s_thing_text) := ⟨rfl, rfl, rfl, by decide +kernel, rfl, by decide +kernel, by decide +kernel⟩
theorem v_thing_text : visOk (S_thing_text K A) (defScope s_thing_text) = true := by kernel_rfl
theorem k_thing_text : kB (S_thing_text K A) 0 c_thing_text (defBody s_thing_text) = true := by kernel_rfl
theorem e_thing_text : (fun EX => mB (S_thing_text K A).gl K (fun _ => EX) c_thing_text) = fun EX => t_thing_text K A (fun _ => EX) := by kernel_rfl
theorem ok_thing_text (T : Txt K mg A) : FnOk false P w K mg base (CX1 P w) 4 A.a_thing_text A.d_thing_text ["thing"] (upSp K (sp_thing_text K A)) := by
  have h := def_cert (qt := false) (P := P) (w := w) (mg := mg) (base := base) (k := 3) (S := S_thing_text K A) (c := c_thing_text) T.F_thing_text sc_thing_text rfl v_thing_text k_thing_text (glc ⟨T.b_tuple, bt_tuple⟩
    (glc ⟨T.b_isinstance, bt_isinstance⟩
    (glc ⟨_, _, _, (ok_bin_name T).mono (by decide), T.m_bin_name, T.F_bin_name.kp, T.B_bin_name⟩
    (glc ⟨T.b_int, bt_int⟩
    (glc ⟨_, _, _, (ok_number_text T).mono (by decide), T.m_number_text, T.F_number_text.kp, T.B_number_text⟩
    gln)))))
  rw [e_thing_text] at h
  exact h
theorem sc_row_text : FnScope ["row"] ["row"] (defScope s_row_text) := ⟨rfl, rfl, rfl, by decide +kernel, rfl, by decide +kernel, by decide +kernel⟩
theorem v_row_text : visOk (S_row_text K A) (defScope s_row_text) = true := by kernel_rfl
theorem k_row_text : kB (S_row_text K A) 0 c_row_text (defBody s_row_text) = true := by kernel_rfl
theorem e_row_text : (fun EX => mB (S_row_text K A).gl K (fun _ => EX) c_row_text) = fun EX => t_row_text K A (fun _ => EX) := by kernel_rfl
theorem ok_row_text (T : Txt K mg A) : FnOk false P w K mg base (CX1 P w) 5 A.a_row_text A.d_row_text ["row"] (upSp K (sp_row_text K A)) := by
  have h := def_cert (qt := false) (P := P) (w := w) (mg := mg) (base := base) (k := 4) (S := S_row_text K A) (c := c_row_text) T.F_row_text sc_row_text rfl v_row_text k_row_text (glc ⟨_, _, _, (ok_thing_text T).mono (by decide), T.m_thing_text, T.F_thing_text.kp, T.B_thing_text⟩
    gln)
  rw [e_row_text] at h
  exact h
theorem sc_rows_text : FnScope ["rows"] ["rows"] (defScope s_rows_text) := ⟨rfl, rfl, rfl, by decide +kernel, rfl, by decide +kernel, by decide +kernel⟩
theorem v_rows_text : visOk (S_rows_text K A) (defScope s_rows_text) = true := by kernel_rfl
theorem k_rows_text : kB (S_rows_text K A) 0 c_rows_text (defBody s_rows_text) = true := by kernel_rfl
theorem e_rows_text : (fun EX => mB (S_rows_text K A).gl K (fun _ => EX) c_rows_text) = fun EX => t_rows_text K A (fun _ => EX) := by kernel_rfl
theorem ok_rows_text (T : Txt K mg A) : FnOk false P w K mg base (CX1 P w) 6 A.a_rows_text A.d_rows_text ["rows"] (upSp K (sp_rows_text K A)) := by
  have h := def_cert (qt := false) (P := P) (w := w) (mg := mg) (base := base) (k := 5) (S := S_rows_text K A) (c := c_rows_text) T.F_rows_text sc_rows_text rfl v_rows_text k_rows_text (glc ⟨T.b_len, bt_len⟩
    (glc ⟨_, _, _, (ok_row_text T).mono (by decide), T.m_row_text, T.F_row_text.kp, T.B_row_text⟩
    gln))
  rw [e_rows_text] at h
  exact h
theorem sc__law_cell_at : FnScope ["_law_script", "_law_k", "_law_more"] ["_law_script", "_law_k"] (defScope s__law_cell_at) := ⟨rfl, rfl, rfl, by decide +kernel, rfl, by decide +kernel, by decide +kernel⟩
theorem v__law_cell_at : visOk (S__law_cell_at K A) (defScope s__law_cell_at) = true := by kernel_rfl
theorem k__law_cell_at : kB (S__law_cell_at K A) 0 c__law_cell_at (defBody s__law_cell_at) = true := by kernel_rfl
theorem e__law_cell_at : (fun EX => mB (S__law_cell_at K A).gl K (fun _ => EX) c__law_cell_at) = fun EX => t__law_cell_at K A (fun _ => EX) := by kernel_rfl
theorem ok__law_cell_at (T : Txt K mg A) : FnOk false P w K mg base (CX1 P w) 1 A.a__law_cell_at A.d__law_cell_at ["_law_script", "_law_k"] (upSp K (sp__law_cell_at K A)) := by
  have h := def_cert (qt := false) (P := P) (w := w) (mg := mg) (base := base) (k := 0) (S := S__law_cell_at K A) (c := c__law_cell_at) T.F__law_cell_at sc__law_cell_at rfl v__law_cell_at k__law_cell_at (glc ⟨T.b_len, bt_len⟩
    gln)
  rw [e__law_cell_at] at h
  exact h
theorem sc__law_mix : FnScope ["_law_number", "_law_k", "_law_more"] ["_law_number", "_law_k"] (defScope s__law_mix) := ⟨rfl, rfl, rfl, by decide +kernel, rfl, by decide +kernel, by decide +kernel⟩
theorem v__law_mix : visOk (S__law_mix K A) (defScope s__law_mix) = true := by kernel_rfl
theorem k__law_mix : kB (S__law_mix K A) 0 c__law_mix (defBody s__law_mix) = true := by kernel_rfl
theorem e__law_mix : (fun EX => mB (S__law_mix K A).gl K (fun _ => EX) c__law_mix) = fun EX => t__law_mix K A (fun _ => EX) := by kernel_rfl
theorem ok__law_mix (T : Txt K mg A) : FnOk false P w K mg base (CX1 P w) 1 A.a__law_mix A.d__law_mix ["_law_number", "_law_k"] (upSp K (sp__law_mix K A)) := by
  have h := def_cert (qt := false) (P := P) (w := w) (mg := mg) (base := base) (k := 0) (S := S__law_mix K A) (c := c__law_mix) T.F__law_mix sc__law_mix rfl v__law_mix k__law_mix gln
  rw [e__law_mix] at h
  exact h
theorem sc__law_name : FnScope ["_law_spot", "_law_figures"] ["_law_spot"] (defScope s__law_name) := ⟨rfl, rfl, rfl, by decide +kernel, rfl, by decide +kernel, by decide +kernel⟩
theorem v__law_name : visOk (S__law_name K A) (defScope s__law_name) = true := by kernel_rfl
theorem k__law_name : kB (S__law_name K A) 0 c__law_name (defBody s__law_name) = true := by kernel_rfl
theorem e__law_name : (fun EX => mB (S__law_name K A).gl K (fun _ => EX) c__law_name) = fun EX => t__law_name K A (fun _ => EX) := by kernel_rfl
theorem ok__law_name (T : Txt K mg A) : FnOk false P w K mg base (CX1 P w) 1 A.a__law_name A.d__law_name ["_law_spot"] (upSp K (sp__law_name K A)) := by
  have h := def_cert (qt := false) (P := P) (w := w) (mg := mg) (base := base) (k := 0) (S := S__law_name K A) (c := c__law_name) T.F__law_name sc__law_name rfl v__law_name k__law_name (glc ⟨T.b_str, bt_str⟩
    (glc ⟨T.b_len, bt_len⟩
    gln))
  rw [e__law_name] at h
  exact h
theorem sc__law_thing : FnScope ["_law_cell", "_law_spot"] ["_law_cell"] (defScope s__law_thing) := ⟨rfl, rfl, rfl, by decide +kernel, rfl, by decide +kernel, by decide +kernel⟩
theorem v__law_thing : visOk (S__law_thing K A) (defScope s__law_thing) = true := by kernel_rfl
theorem k__law_thing : kB (S__law_thing K A) 0 c__law_thing (defBody s__law_thing) = true := by kernel_rfl
theorem e__law_thing : (fun EX => mB (S__law_thing K A).gl K (fun _ => EX) c__law_thing) = fun EX => t__law_thing K A (fun _ => EX) := by kernel_rfl
theorem ok__law_thing (T : Txt K mg A) : FnOk false P w K mg base (CX1 P w) 1 A.a__law_thing A.d__law_thing ["_law_cell"] (upSp K (sp__law_thing K A)) := by
  have h := def_cert (qt := false) (P := P) (w := w) (mg := mg) (base := base) (k := 0) (S := S__law_thing K A) (c := c__law_thing) T.F__law_thing sc__law_thing rfl v__law_thing k__law_thing gln
  rw [e__law_thing] at h
  exact h
theorem sc__law_line : FnScope ["_law_row", "_law_text", "_law_thing_here"] ["_law_row"] (defScope s__law_line) := ⟨rfl, rfl, rfl, by decide +kernel, rfl, by decide +kernel, by decide +kernel⟩
theorem v__law_line : visOk (S__law_line K A) (defScope s__law_line) = true := by kernel_rfl
theorem k__law_line : kB (S__law_line K A) 0 c__law_line (defBody s__law_line) = true := by kernel_rfl
theorem e__law_line : (fun EX => mB (S__law_line K A).gl K (fun _ => EX) c__law_line) = fun EX => t__law_line K A (fun _ => EX) := by kernel_rfl
theorem ok__law_line (T : Txt K mg A) : FnOk false P w K mg base (CX1 P w) 2 A.a__law_line A.d__law_line ["_law_row"] (upSp K (sp__law_line K A)) := by
  have h := def_cert (qt := false) (P := P) (w := w) (mg := mg) (base := base) (k := 1) (S := S__law_line K A) (c := c__law_line) T.F__law_line sc__law_line rfl v__law_line k__law_line (glc ⟨T.b_tuple, bt_tuple⟩
    (glc ⟨T.b_isinstance, bt_isinstance⟩
    (glc ⟨_, _, _, (ok__law_name T).mono (by decide), T.m__law_name, T.F__law_name.kp, T.B__law_name⟩
    (glc ⟨T.b_str, bt_str⟩
    gln))))
  rw [e__law_line] at h
  exact h
theorem sc_law : FnScope ["_law_script", "_law_many", "_law_rows", "_law_k", "_law_cell", "_law_row", "_law_j", "_law_due", "_law_handed", "_law_found"] ["_law_script"] (defScope s_law) := ⟨rfl, rfl, rfl, by decide +kernel, rfl, by decide +kernel, by decide +kernel⟩
theorem v_law : visOk (S_law K A) (defScope s_law) = true := by kernel_rfl
theorem k_law : kB (S_law K A) 0 c_law (defBody s_law) = true := by kernel_rfl
theorem e_law : (fun EX => mB (S_law K A).gl K (fun _ => EX) c_law) = fun EX => t_law K A (fun _ => EX) := by kernel_rfl
theorem ok_law (T : Txt K mg A) : FnOk false P w K mg base (CX1 P w) 7 A.a_law A.d_law ["_law_script"] (upSp K (sp_law K A)) := by
  have h := def_cert (qt := false) (P := P) (w := w) (mg := mg) (base := base) (k := 6) (S := S_law K A) (c := c_law) T.F_law sc_law rfl v_law k_law (glc ⟨_, _, _, (ok__law_cell_at T).mono (by decide), T.m__law_cell_at, T.F__law_cell_at.kp, T.B__law_cell_at⟩
    (glc ⟨T.b_range, bt_range⟩
    (glc ⟨_, _, _, (ok__law_mix T).mono (by decide), T.m__law_mix, T.F__law_mix.kp, T.B__law_mix⟩
    (glc ⟨_, _, _, (ok__law_thing T).mono (by decide), T.m__law_thing, T.F__law_thing.kp, T.B__law_thing⟩
    (glc ⟨T.b_tuple, bt_tuple⟩
    (glc ⟨_, _, _, (ok__law_line T).mono (by decide), T.m__law_line, T.F__law_line.kp, T.B__law_line⟩
    (glc ⟨T.b_list, bt_list⟩
    (glc ⟨_, _, _, (ok_rows_text T).mono (by decide), T.m_rows_text, T.F_rows_text.kp, T.B_rows_text⟩
    (glc ⟨T.b_str, bt_str⟩
    (glc ⟨T.b_isinstance, bt_isinstance⟩
    gln))))))))))
  rw [e_law] at h
  exact h
end
def spFin (K : Fg) : Sp := fun vs H Q _ => ∃ (a : Addr) (ns : List Int), vs = [.ref a] ∧ SqL K H a (ns.map V.int) ∧ ns.length ≤ 63 ∧ ∀ H', Q (.bl true) H'
theorem fin_imp {K : Fg} {mg : Str → Option Value} {A : Adr} (T : Txt K mg A) : ∀ vs H Q E, spFin K vs H Q E → upSp K (sp_law K A) vs H Q E := by
  rintro vs H Q E ⟨a, ns, rfl, hS, hl, k⟩
  refine ⟨[.ref a], fun b => if b = a then some (.rol (ns.map D.int)) else none, fun d _ => d = .bl true, fun _ _ => False, .cons (.ref a) .nil, fun b o e => ?_, main T a ns hl _ (if_pos rfl), fun v H' d G' r g e => ?_, fun C H' G' g z => z.elim⟩
  · have e2 : (if b = a then some (GO.rol (ns.map D.int)) else none) = some o := e
    by_cases hb : b = a
    · subst hb
      rw [if_pos rfl] at e2
      cases e2
      exact ⟨_, hS, RDs.ints ns⟩
    · rw [if_neg hb] at e2
      cases e2
  · subst e
    cases r
    exact k H'
theorem all_mk {l : PySem.W.OpenLaw} {w : World} {K : Fg} {h : Heap} {mg : Str → Option Value} {fa : Addr} (XK : K.In h) (GG : h.Ns mainGlobals mg) (hfa : mg "law" = some (.ref fa))
    {h_DepotError : Addr}
    {h_NoBin : Addr}
    {f_is_whole : Addr} {od_is_whole an_is_whole : Option Addr} {sl_is_whole : Array (Option Value)} {oc_is_whole kV_is_whole dc_is_whole pm_is_whole cd_is_whole ct_is_whole : Value}
    {f_is_pair : Addr} {od_is_pair an_is_pair : Option Addr} {sl_is_pair : Array (Option Value)} {oc_is_pair kV_is_pair dc_is_pair pm_is_pair cd_is_pair ct_is_pair : Value}
    {f_bin_name : Addr} {od_bin_name an_bin_name : Option Addr} {sl_bin_name : Array (Option Value)} {oc_bin_name kV_bin_name dc_bin_name pm_bin_name cd_bin_name ct_bin_name : Value}
    {f_number_text : Addr} {od_number_text an_number_text : Option Addr} {sl_number_text : Array (Option Value)} {oc_number_text kV_number_text dc_number_text pm_number_text cd_number_text ct_number_text : Value}
    {f_thing_text : Addr} {od_thing_text an_thing_text : Option Addr} {sl_thing_text : Array (Option Value)} {oc_thing_text kV_thing_text dc_thing_text pm_thing_text cd_thing_text ct_thing_text : Value}
    {f_row_text : Addr} {od_row_text an_row_text : Option Addr} {sl_row_text : Array (Option Value)} {oc_row_text kV_row_text dc_row_text pm_row_text cd_row_text ct_row_text : Value}
    {f_rows_text : Addr} {od_rows_text an_rows_text : Option Addr} {sl_rows_text : Array (Option Value)} {oc_rows_text kV_rows_text dc_rows_text pm_rows_text cd_rows_text ct_rows_text : Value}
    {f__law_cell_at : Addr} {od__law_cell_at an__law_cell_at : Option Addr} {sl__law_cell_at : Array (Option Value)} {oc__law_cell_at kV__law_cell_at dc__law_cell_at pm__law_cell_at cd__law_cell_at ct__law_cell_at : Value}
    {f__law_mix : Addr} {od__law_mix an__law_mix : Option Addr} {sl__law_mix : Array (Option Value)} {oc__law_mix kV__law_mix dc__law_mix pm__law_mix cd__law_mix ct__law_mix : Value}
    {f__law_name : Addr} {od__law_name an__law_name : Option Addr} {sl__law_name : Array (Option Value)} {oc__law_name kV__law_name dc__law_name pm__law_name cd__law_name ct__law_name : Value}
    {f__law_thing : Addr} {od__law_thing an__law_thing : Option Addr} {sl__law_thing : Array (Option Value)} {oc__law_thing kV__law_thing dc__law_thing pm__law_thing cd__law_thing ct__law_thing : Value}
    {f__law_line : Addr} {od__law_line an__law_line : Option Addr} {sl__law_line : Array (Option Value)} {oc__law_line kV__law_line dc__law_line pm__law_line cd__law_line ct__law_line : Value}
    {f_law : Addr} {od_law an_law : Option Addr} {sl_law : Array (Option Value)} {oc_law kV_law dc_law pm_law cd_law ct_law : Value}
    {t_LETTERS : Tok}
    {t_FIGURES : Tok}
    {t_MOST_AISLES : Tok}
    {t_MOST_PLACES : Tok}
    (a_is_whole : PySem.W.nsIn K mainGlobals "is_whole" = some (some (.ref f_is_whole)))
    (l_is_whole : K.lookup f_is_whole = some ⟨oc_is_whole, od_is_whole, .func (PySem.W.fnOf "is_whole" "is_whole" (defArgs s_is_whole) (defBody s_is_whole) (defScope s_is_whole) .none kV_is_whole dc_is_whole pm_is_whole an_is_whole cd_is_whole ct_is_whole), sl_is_whole⟩)
    (c_is_whole : PySem.W.codeIn K cd_is_whole "is_whole" = true)
    (k_is_whole : PySem.W.keepIn K (.ref f_is_whole) = true)
    (a_is_pair : PySem.W.nsIn K mainGlobals "is_pair" = some (some (.ref f_is_pair)))
    (l_is_pair : K.lookup f_is_pair = some ⟨oc_is_pair, od_is_pair, .func (PySem.W.fnOf "is_pair" "is_pair" (defArgs s_is_pair) (defBody s_is_pair) (defScope s_is_pair) .none kV_is_pair dc_is_pair pm_is_pair an_is_pair cd_is_pair ct_is_pair), sl_is_pair⟩)
    (c_is_pair : PySem.W.codeIn K cd_is_pair "is_pair" = true)
    (k_is_pair : PySem.W.keepIn K (.ref f_is_pair) = true)
    (a_bin_name : PySem.W.nsIn K mainGlobals "bin_name" = some (some (.ref f_bin_name)))
    (l_bin_name : K.lookup f_bin_name = some ⟨oc_bin_name, od_bin_name, .func (PySem.W.fnOf "bin_name" "bin_name" (defArgs s_bin_name) (defBody s_bin_name) (defScope s_bin_name) .none kV_bin_name dc_bin_name pm_bin_name an_bin_name cd_bin_name ct_bin_name), sl_bin_name⟩)
    (c_bin_name : PySem.W.codeIn K cd_bin_name "bin_name" = true)
    (k_bin_name : PySem.W.keepIn K (.ref f_bin_name) = true)
    (a_number_text : PySem.W.nsIn K mainGlobals "number_text" = some (some (.ref f_number_text)))
    (l_number_text : K.lookup f_number_text = some ⟨oc_number_text, od_number_text, .func (PySem.W.fnOf "number_text" "number_text" (defArgs s_number_text) (defBody s_number_text) (defScope s_number_text) .none kV_number_text dc_number_text pm_number_text an_number_text cd_number_text ct_number_text), sl_number_text⟩)
    (c_number_text : PySem.W.codeIn K cd_number_text "number_text" = true)
    (k_number_text : PySem.W.keepIn K (.ref f_number_text) = true)
    (a_thing_text : PySem.W.nsIn K mainGlobals "thing_text" = some (some (.ref f_thing_text)))
    (l_thing_text : K.lookup f_thing_text = some ⟨oc_thing_text, od_thing_text, .func (PySem.W.fnOf "thing_text" "thing_text" (defArgs s_thing_text) (defBody s_thing_text) (defScope s_thing_text) .none kV_thing_text dc_thing_text pm_thing_text an_thing_text cd_thing_text ct_thing_text), sl_thing_text⟩)
    (c_thing_text : PySem.W.codeIn K cd_thing_text "thing_text" = true)
    (k_thing_text : PySem.W.keepIn K (.ref f_thing_text) = true)
    (a_row_text : PySem.W.nsIn K mainGlobals "row_text" = some (some (.ref f_row_text)))
    (l_row_text : K.lookup f_row_text = some ⟨oc_row_text, od_row_text, .func (PySem.W.fnOf "row_text" "row_text" (defArgs s_row_text) (defBody s_row_text) (defScope s_row_text) .none kV_row_text dc_row_text pm_row_text an_row_text cd_row_text ct_row_text), sl_row_text⟩)
    (c_row_text : PySem.W.codeIn K cd_row_text "row_text" = true)
    (k_row_text : PySem.W.keepIn K (.ref f_row_text) = true)
    (a_rows_text : PySem.W.nsIn K mainGlobals "rows_text" = some (some (.ref f_rows_text)))
    (l_rows_text : K.lookup f_rows_text = some ⟨oc_rows_text, od_rows_text, .func (PySem.W.fnOf "rows_text" "rows_text" (defArgs s_rows_text) (defBody s_rows_text) (defScope s_rows_text) .none kV_rows_text dc_rows_text pm_rows_text an_rows_text cd_rows_text ct_rows_text), sl_rows_text⟩)
    (c_rows_text : PySem.W.codeIn K cd_rows_text "rows_text" = true)
    (k_rows_text : PySem.W.keepIn K (.ref f_rows_text) = true)
    (a__law_cell_at : PySem.W.nsIn K mainGlobals "_law_cell_at" = some (some (.ref f__law_cell_at)))
    (l__law_cell_at : K.lookup f__law_cell_at = some ⟨oc__law_cell_at, od__law_cell_at, .func (PySem.W.fnOf "_law_cell_at" "_law_cell_at" (defArgs s__law_cell_at) (defBody s__law_cell_at) (defScope s__law_cell_at) .none kV__law_cell_at dc__law_cell_at pm__law_cell_at an__law_cell_at cd__law_cell_at ct__law_cell_at), sl__law_cell_at⟩)
    (c__law_cell_at : PySem.W.codeIn K cd__law_cell_at "_law_cell_at" = true)
    (k__law_cell_at : PySem.W.keepIn K (.ref f__law_cell_at) = true)
    (a__law_mix : PySem.W.nsIn K mainGlobals "_law_mix" = some (some (.ref f__law_mix)))
    (l__law_mix : K.lookup f__law_mix = some ⟨oc__law_mix, od__law_mix, .func (PySem.W.fnOf "_law_mix" "_law_mix" (defArgs s__law_mix) (defBody s__law_mix) (defScope s__law_mix) .none kV__law_mix dc__law_mix pm__law_mix an__law_mix cd__law_mix ct__law_mix), sl__law_mix⟩)
    (c__law_mix : PySem.W.codeIn K cd__law_mix "_law_mix" = true)
    (k__law_mix : PySem.W.keepIn K (.ref f__law_mix) = true)
    (a__law_name : PySem.W.nsIn K mainGlobals "_law_name" = some (some (.ref f__law_name)))
    (l__law_name : K.lookup f__law_name = some ⟨oc__law_name, od__law_name, .func (PySem.W.fnOf "_law_name" "_law_name" (defArgs s__law_name) (defBody s__law_name) (defScope s__law_name) .none kV__law_name dc__law_name pm__law_name an__law_name cd__law_name ct__law_name), sl__law_name⟩)
    (c__law_name : PySem.W.codeIn K cd__law_name "_law_name" = true)
    (k__law_name : PySem.W.keepIn K (.ref f__law_name) = true)
    (a__law_thing : PySem.W.nsIn K mainGlobals "_law_thing" = some (some (.ref f__law_thing)))
    (l__law_thing : K.lookup f__law_thing = some ⟨oc__law_thing, od__law_thing, .func (PySem.W.fnOf "_law_thing" "_law_thing" (defArgs s__law_thing) (defBody s__law_thing) (defScope s__law_thing) .none kV__law_thing dc__law_thing pm__law_thing an__law_thing cd__law_thing ct__law_thing), sl__law_thing⟩)
    (c__law_thing : PySem.W.codeIn K cd__law_thing "_law_thing" = true)
    (k__law_thing : PySem.W.keepIn K (.ref f__law_thing) = true)
    (a__law_line : PySem.W.nsIn K mainGlobals "_law_line" = some (some (.ref f__law_line)))
    (l__law_line : K.lookup f__law_line = some ⟨oc__law_line, od__law_line, .func (PySem.W.fnOf "_law_line" "_law_line" (defArgs s__law_line) (defBody s__law_line) (defScope s__law_line) .none kV__law_line dc__law_line pm__law_line an__law_line cd__law_line ct__law_line), sl__law_line⟩)
    (c__law_line : PySem.W.codeIn K cd__law_line "_law_line" = true)
    (k__law_line : PySem.W.keepIn K (.ref f__law_line) = true)
    (a_law : PySem.W.nsIn K mainGlobals "law" = some (some (.ref f_law)))
    (l_law : K.lookup f_law = some ⟨oc_law, od_law, .func (PySem.W.fnOf "law" "law" (defArgs s_law) (defBody s_law) (defScope s_law) .none kV_law dc_law pm_law an_law cd_law ct_law), sl_law⟩)
    (c_law : PySem.W.codeIn K cd_law "law" = true)
    (k_law : PySem.W.keepIn K (.ref f_law) = true)
    (b_DepotError : PySem.W.nsIn K mainGlobals "DepotError" = some (some (.ref h_DepotError)))
    (x_DepotError : PySem.W.excIn K h_DepotError [.type "ValueError", .type "Exception", .type "BaseException", .type "object"] "ValueError.__new__" = true)
    (cs_DepotError : (PySem.W.clsIn K h_DepotError).isSome = true)
    (ty_DepotError : PySem.W.typeIn K (.ref h_DepotError) = some (.type "type"))
    (be_DepotError : PySem.W.subIn K (.ref h_DepotError) (.type "BaseException") = some true)
    (ga_DepotError : PySem.W.findIn K (.ref h_DepotError) "__getattribute__" = some (some (.builtin "BaseException.__getattribute__")))
    (gn_DepotError : PySem.W.findIn K (.ref h_DepotError) "__getattr__" = some none)
    (gc_DepotError : PySem.W.findIn K (.ref h_DepotError) "__class__" = some (some (.builtin "object.__class__")))
    (ob_DepotError : PySem.W.mroIn K h_DepotError (.type "object") = some true)
    (kv_DepotError : PySem.W.kitOne K (.ref h_DepotError) (.type "ValueError") = some true)
    (b_NoBin : PySem.W.nsIn K mainGlobals "NoBin" = some (some (.ref h_NoBin)))
    (x_NoBin : PySem.W.excIn K h_NoBin [.type "ValueError", .type "Exception", .type "BaseException", .type "object"] "ValueError.__new__" = true)
    (cs_NoBin : (PySem.W.clsIn K h_NoBin).isSome = true)
    (ty_NoBin : PySem.W.typeIn K (.ref h_NoBin) = some (.type "type"))
    (be_NoBin : PySem.W.subIn K (.ref h_NoBin) (.type "BaseException") = some true)
    (ga_NoBin : PySem.W.findIn K (.ref h_NoBin) "__getattribute__" = some (some (.builtin "BaseException.__getattribute__")))
    (gn_NoBin : PySem.W.findIn K (.ref h_NoBin) "__getattr__" = some none)
    (gc_NoBin : PySem.W.findIn K (.ref h_NoBin) "__class__" = some (some (.builtin "object.__class__")))
    (ob_NoBin : PySem.W.mroIn K h_NoBin (.type "object") = some true)
    (kv_NoBin : PySem.W.kitOne K (.ref h_NoBin) (.type "ValueError") = some true)
    (g_LETTERS : PySem.W.nsIn K mainGlobals "LETTERS" = some (some (.str "ABCDEFGHIJKLMNOPQRSTUVWXYZ" t_LETTERS)))
    (g_FIGURES : PySem.W.nsIn K mainGlobals "FIGURES" = some (some (.str "0123456789" t_FIGURES)))
    (g_MOST_AISLES : PySem.W.nsIn K mainGlobals "MOST_AISLES" = some (some (.int 26 t_MOST_AISLES)))
    (g_MOST_PLACES : PySem.W.nsIn K mainGlobals "MOST_PLACES" = some (some (.int 99 t_MOST_PLACES)))
    (n_abs : PySem.W.nsIn K mainGlobals "abs" = some none)
    (n_bool : PySem.W.nsIn K mainGlobals "bool" = some none)
    (n_int : PySem.W.nsIn K mainGlobals "int" = some none)
    (n_isinstance : PySem.W.nsIn K mainGlobals "isinstance" = some none)
    (n_len : PySem.W.nsIn K mainGlobals "len" = some none)
    (n_list : PySem.W.nsIn K mainGlobals "list" = some none)
    (n_range : PySem.W.nsIn K mainGlobals "range" = some none)
    (n_reversed : PySem.W.nsIn K mainGlobals "reversed" = some none)
    (n_str : PySem.W.nsIn K mainGlobals "str" = some none)
    (n_tuple : PySem.W.nsIn K mainGlobals "tuple" = some none) :
    ∃ fd : FuncData, (∀ (s : Shared) (v : Value), BindsTo s fd ⟨[v], []⟩ [("_law_script", v)]) ∧ ∀ base : Heap, K.In base → base.Ns mainGlobals mg → FnOk false l.prog w K mg base (CX1 l.prog w) 7 fa fd ["_law_script"] (spFin K) := by
  have e := hfa.symm.trans (PySem.W.mg_of XK GG a_law)
  cases e
  have T : Txt K mg ⟨f_is_whole, PySem.W.fnOf "is_whole" "is_whole" (defArgs s_is_whole) (defBody s_is_whole) (defScope s_is_whole) .none kV_is_whole dc_is_whole pm_is_whole an_is_whole cd_is_whole ct_is_whole,
    f_is_pair, PySem.W.fnOf "is_pair" "is_pair" (defArgs s_is_pair) (defBody s_is_pair) (defScope s_is_pair) .none kV_is_pair dc_is_pair pm_is_pair an_is_pair cd_is_pair ct_is_pair,
    f_bin_name, PySem.W.fnOf "bin_name" "bin_name" (defArgs s_bin_name) (defBody s_bin_name) (defScope s_bin_name) .none kV_bin_name dc_bin_name pm_bin_name an_bin_name cd_bin_name ct_bin_name,
    f_number_text, PySem.W.fnOf "number_text" "number_text" (defArgs s_number_text) (defBody s_number_text) (defScope s_number_text) .none kV_number_text dc_number_text pm_number_text an_number_text cd_number_text ct_number_text,
    f_thing_text, PySem.W.fnOf "thing_text" "thing_text" (defArgs s_thing_text) (defBody s_thing_text) (defScope s_thing_text) .none kV_thing_text dc_thing_text pm_thing_text an_thing_text cd_thing_text ct_thing_text,
    f_row_text, PySem.W.fnOf "row_text" "row_text" (defArgs s_row_text) (defBody s_row_text) (defScope s_row_text) .none kV_row_text dc_row_text pm_row_text an_row_text cd_row_text ct_row_text,
    f_rows_text, PySem.W.fnOf "rows_text" "rows_text" (defArgs s_rows_text) (defBody s_rows_text) (defScope s_rows_text) .none kV_rows_text dc_rows_text pm_rows_text an_rows_text cd_rows_text ct_rows_text,
    f__law_cell_at, PySem.W.fnOf "_law_cell_at" "_law_cell_at" (defArgs s__law_cell_at) (defBody s__law_cell_at) (defScope s__law_cell_at) .none kV__law_cell_at dc__law_cell_at pm__law_cell_at an__law_cell_at cd__law_cell_at ct__law_cell_at,
    f__law_mix, PySem.W.fnOf "_law_mix" "_law_mix" (defArgs s__law_mix) (defBody s__law_mix) (defScope s__law_mix) .none kV__law_mix dc__law_mix pm__law_mix an__law_mix cd__law_mix ct__law_mix,
    f__law_name, PySem.W.fnOf "_law_name" "_law_name" (defArgs s__law_name) (defBody s__law_name) (defScope s__law_name) .none kV__law_name dc__law_name pm__law_name an__law_name cd__law_name ct__law_name,
    f__law_thing, PySem.W.fnOf "_law_thing" "_law_thing" (defArgs s__law_thing) (defBody s__law_thing) (defScope s__law_thing) .none kV__law_thing dc__law_thing pm__law_thing an__law_thing cd__law_thing ct__law_thing,
    f__law_line, PySem.W.fnOf "_law_line" "_law_line" (defArgs s__law_line) (defBody s__law_line) (defScope s__law_line) .none kV__law_line dc__law_line pm__law_line an__law_line cd__law_line ct__law_line,
    fa, PySem.W.fnOf "law" "law" (defArgs s_law) (defBody s_law) (defScope s_law) .none kV_law dc_law pm_law an_law cd_law ct_law,
    h_DepotError,
    h_NoBin⟩ := {
    F_is_whole := fun_mk (st := s_is_whole) l_is_whole c_is_whole k_is_whole,
    B_is_whole := bindsD0 (ps := ["thing", "least", "most"]) (fun us hl => match us, hl with | [_, _, _], _ => rfl),
    m_is_whole := PySem.W.mg_of XK GG a_is_whole,
    F_is_pair := fun_mk (st := s_is_pair) l_is_pair c_is_pair k_is_pair,
    B_is_pair := bindsD0 (ps := ["thing", "aisles", "first", "last"]) (fun us hl => match us, hl with | [_, _, _, _], _ => rfl),
    m_is_pair := PySem.W.mg_of XK GG a_is_pair,
    F_bin_name := fun_mk (st := s_bin_name) l_bin_name c_bin_name k_bin_name,
    B_bin_name := bindsD0 (ps := ["spot"]) (fun us hl => match us, hl with | [_], _ => rfl),
    m_bin_name := PySem.W.mg_of XK GG a_bin_name,
    F_number_text := fun_mk (st := s_number_text) l_number_text c_number_text k_number_text,
    B_number_text := bindsD0 (ps := ["number"]) (fun us hl => match us, hl with | [_], _ => rfl),
    m_number_text := PySem.W.mg_of XK GG a_number_text,
    F_thing_text := fun_mk (st := s_thing_text) l_thing_text c_thing_text k_thing_text,
    B_thing_text := bindsD0 (ps := ["thing"]) (fun us hl => match us, hl with | [_], _ => rfl),
    m_thing_text := PySem.W.mg_of XK GG a_thing_text,
    F_row_text := fun_mk (st := s_row_text) l_row_text c_row_text k_row_text,
    B_row_text := bindsD0 (ps := ["row"]) (fun us hl => match us, hl with | [_], _ => rfl),
    m_row_text := PySem.W.mg_of XK GG a_row_text,
    F_rows_text := fun_mk (st := s_rows_text) l_rows_text c_rows_text k_rows_text,
    B_rows_text := bindsD0 (ps := ["rows"]) (fun us hl => match us, hl with | [_], _ => rfl),
    m_rows_text := PySem.W.mg_of XK GG a_rows_text,
    F__law_cell_at := fun_mk (st := s__law_cell_at) l__law_cell_at c__law_cell_at k__law_cell_at,
    B__law_cell_at := bindsD0 (ps := ["_law_script", "_law_k"]) (fun us hl => match us, hl with | [_, _], _ => rfl),
    m__law_cell_at := PySem.W.mg_of XK GG a__law_cell_at,
    F__law_mix := fun_mk (st := s__law_mix) l__law_mix c__law_mix k__law_mix,
    B__law_mix := bindsD0 (ps := ["_law_number", "_law_k"]) (fun us hl => match us, hl with | [_, _], _ => rfl),
    m__law_mix := PySem.W.mg_of XK GG a__law_mix,
    F__law_name := fun_mk (st := s__law_name) l__law_name c__law_name k__law_name,
    B__law_name := bindsD0 (ps := ["_law_spot"]) (fun us hl => match us, hl with | [_], _ => rfl),
    m__law_name := PySem.W.mg_of XK GG a__law_name,
    F__law_thing := fun_mk (st := s__law_thing) l__law_thing c__law_thing k__law_thing,
    B__law_thing := bindsD0 (ps := ["_law_cell"]) (fun us hl => match us, hl with | [_], _ => rfl),
    m__law_thing := PySem.W.mg_of XK GG a__law_thing,
    F__law_line := fun_mk (st := s__law_line) l__law_line c__law_line k__law_line,
    B__law_line := bindsD0 (ps := ["_law_row"]) (fun us hl => match us, hl with | [_], _ => rfl),
    m__law_line := PySem.W.mg_of XK GG a__law_line,
    F_law := fun_mk (st := s_law) l_law c_law k_law,
    B_law := bindsD0 (ps := ["_law_script"]) (fun us hl => match us, hl with | [_], _ => rfl),
    m_law := PySem.W.mg_of XK GG a_law,
    m_DepotError := PySem.W.mg_of XK GG b_DepotError,
    x_DepotError := x_DepotError,
    cs_DepotError := cs_DepotError,
    ty_DepotError := ty_DepotError,
    be_DepotError := be_DepotError,
    e_DepotError := ⟨ga_DepotError, gn_DepotError, gc_DepotError,
    be_DepotError, ob_DepotError,
    cs_DepotError⟩,
    kv_DepotError := kv_DepotError,
    m_NoBin := PySem.W.mg_of XK GG b_NoBin,
    x_NoBin := x_NoBin,
    cs_NoBin := cs_NoBin,
    ty_NoBin := ty_NoBin,
    be_NoBin := be_NoBin,
    e_NoBin := ⟨ga_NoBin, gn_NoBin, gc_NoBin,
    be_NoBin, ob_NoBin,
    cs_NoBin⟩,
    kv_NoBin := kv_NoBin,
    g_LETTERS := ⟨t_LETTERS, PySem.W.mg_of XK GG g_LETTERS⟩,
    g_FIGURES := ⟨t_FIGURES, PySem.W.mg_of XK GG g_FIGURES⟩,
    g_MOST_AISLES := ⟨t_MOST_AISLES, PySem.W.mg_of XK GG g_MOST_AISLES⟩,
    g_MOST_PLACES := ⟨t_MOST_PLACES, PySem.W.mg_of XK GG g_MOST_PLACES⟩,
    b_abs := PySem.W.mg_none_of XK GG n_abs,
    b_bool := PySem.W.mg_none_of XK GG n_bool,
    b_int := PySem.W.mg_none_of XK GG n_int,
    b_isinstance := PySem.W.mg_none_of XK GG n_isinstance,
    b_len := PySem.W.mg_none_of XK GG n_len,
    b_list := PySem.W.mg_none_of XK GG n_list,
    b_range := PySem.W.mg_none_of XK GG n_range,
    b_reversed := PySem.W.mg_none_of XK GG n_reversed,
    b_str := PySem.W.mg_none_of XK GG n_str,
    b_tuple := PySem.W.mg_none_of XK GG n_tuple }
  exact ⟨_, fun s v => .of_eq rfl, fun base _ _ => (ok_law T).imp (fin_imp T)⟩
theorem walk {l : PySem.W.OpenLaw} {q : Program} {loose : List Str} {XP : (Str → Option Value) → Heap → Prop} {YP : World → Heap → Prop} {d : DefRec} {K : Params → PySem.W.Frag} (hn : l.most = some 63) (hdf : d.params.defaults = [])
    (hY : ∀ (w : World) (h : Heap), YP w h → (K w.params).In h)
    (F : ∀ (w : World) (mg : Str → Option Value) (fa : Addr) (h : Heap), (K w.params).In h → h.Ns mainGlobals mg → mg d.name = some (.ref fa) →
      ∃ fd : FuncData, (∀ (s : Shared) (u : Value), BindsTo s fd ⟨[u], []⟩ [("_law_script", u)]) ∧ ∀ base : Heap, (K w.params).In base → base.Ns mainGlobals mg → FnOk false l.prog w (K w.params) mg base (CX1 l.prog w) 7 fa fd ["_law_script"] (spFin (K w.params))) :
    PySem.W.WalkO q loose XP YP l.row.toRowW d [] (fun f vs => PySem.call f vs) :=
  L2.walk_of (n := 63) (k := 7) (x := "_law_script") (CX := fun w => CX1 l.prog w) (sp := fun w => spFin (K w.params)) hn (by decide) hdf ⟨fun _ => rfl, by decide, by decide⟩ hY F (fun _ _ a ns hl _ hS => ⟨a, ns, rfl, hS, hl, fun _ => rfl⟩) fun _ _ _ _ _ ⟨_, _, _, _, _, _, _, _, _, _, _, _, z⟩ => z
end Law
open PySem PySem.W PyProof.Rows
set_option maxRecDepth 100000 in
set_option maxHeartbeats 0 in
theorem PySem.Challenge.cw_depot_k82_rows_as_text_holds : PySem.Challenge.rw_depot_k82_rows_as_text.Holds := by
  w_on; o_law; k_head; (case hw => w_witness2)
  k_fill
  refine Law.walk (l := PySem.Challenge.rw_depot_k82_rows_as_text) rfl rfl (fun w h Y => PySem.W.kIn_of Y) ?F
  case F =>
    intro w mg fa h KX G hmg
    refine' Law.all_mk KX G hmg ?a_is_whole ?l_is_whole ?c_is_whole ?k_is_whole ?a_is_pair ?l_is_pair ?c_is_pair ?k_is_pair ?a_bin_name ?l_bin_name ?c_bin_name ?k_bin_name ?a_number_text ?l_number_text ?c_number_text ?k_number_text ?a_thing_text ?l_thing_text ?c_thing_text ?k_thing_text ?a_row_text ?l_row_text ?c_row_text ?k_row_text ?a_rows_text ?l_rows_text ?c_rows_text ?k_rows_text ?a__law_cell_at ?l__law_cell_at ?c__law_cell_at ?k__law_cell_at ?a__law_mix ?l__law_mix ?c__law_mix ?k__law_mix ?a__law_name ?l__law_name ?c__law_name ?k__law_name ?a__law_thing ?l__law_thing ?c__law_thing ?k__law_thing ?a__law_line ?l__law_line ?c__law_line ?k__law_line ?a_law ?l_law ?c_law ?k_law ?b_DepotError ?x_DepotError ?cs_DepotError ?ty_DepotError ?be_DepotError ?ga_DepotError ?gn_DepotError ?gc_DepotError ?ob_DepotError ?kv_DepotError ?b_NoBin ?x_NoBin ?cs_NoBin ?ty_NoBin ?be_NoBin ?ga_NoBin ?gn_NoBin ?gc_NoBin ?ob_NoBin ?kv_NoBin ?g_LETTERS ?g_FIGURES ?g_MOST_AISLES ?g_MOST_PLACES ?n_abs ?n_bool ?n_int ?n_isinstance ?n_len ?n_list ?n_range ?n_reversed ?n_str ?n_tuple
    (case a_is_whole => k_is)
    (case l_is_whole => k_is)
    (case c_is_whole => k_is)
    (case k_is_whole => k_is)
    (case a_is_pair => k_is)
    (case l_is_pair => k_is)
    (case c_is_pair => k_is)
    (case k_is_pair => k_is)
    (case a_bin_name => k_is)
    (case l_bin_name => k_is)
    (case c_bin_name => k_is)
    (case k_bin_name => k_is)
    (case a_number_text => k_is)
    (case l_number_text => k_is)
    (case c_number_text => k_is)
    (case k_number_text => k_is)
    (case a_thing_text => k_is)
    (case l_thing_text => k_is)
    (case c_thing_text => k_is)
    (case k_thing_text => k_is)
    (case a_row_text => k_is)
    (case l_row_text => k_is)
    (case c_row_text => k_is)
    (case k_row_text => k_is)
    (case a_rows_text => k_is)
    (case l_rows_text => k_is)
    (case c_rows_text => k_is)
    (case k_rows_text => k_is)
    (case a__law_cell_at => k_is)
    (case l__law_cell_at => k_is)
    (case c__law_cell_at => k_is)
    (case k__law_cell_at => k_is)
    (case a__law_mix => k_is)
    (case l__law_mix => k_is)
    (case c__law_mix => k_is)
    (case k__law_mix => k_is)
    (case a__law_name => k_is)
    (case l__law_name => k_is)
    (case c__law_name => k_is)
    (case k__law_name => k_is)
    (case a__law_thing => k_is)
    (case l__law_thing => k_is)
    (case c__law_thing => k_is)
    (case k__law_thing => k_is)
    (case a__law_line => k_is)
    (case l__law_line => k_is)
    (case c__law_line => k_is)
    (case k__law_line => k_is)
    (case a_law => k_is)
    (case l_law => k_is)
    (case c_law => k_is)
    (case k_law => k_is)
    (case b_DepotError => k_is)
    (case x_DepotError => k_exc)
    (case cs_DepotError => kernel_rfl)
    (case ty_DepotError => k_is)
    (case be_DepotError => k_is)
    (case ga_DepotError => k_is)
    (case gn_DepotError => k_is)
    (case gc_DepotError => k_is)
    (case ob_DepotError => k_is)
    (case kv_DepotError => kit_is)
    (case b_NoBin => k_is)
    (case x_NoBin => k_exc)
    (case cs_NoBin => kernel_rfl)
    (case ty_NoBin => k_is)
    (case be_NoBin => k_is)
    (case ga_NoBin => k_is)
    (case gn_NoBin => k_is)
    (case gc_NoBin => k_is)
    (case ob_NoBin => k_is)
    (case kv_NoBin => kit_is)
    (case g_LETTERS => k_is)
    (case g_FIGURES => k_is)
    (case g_MOST_AISLES => k_is)
    (case g_MOST_PLACES => k_is)
    (case n_abs => k_is)
    (case n_bool => k_is)
    (case n_int => k_is)
    (case n_isinstance => k_is)
    (case n_len => k_is)
    (case n_list => k_is)
    (case n_range => k_is)
    (case n_reversed => k_is)
    (case n_str => k_is)
    (case n_tuple => k_is)
