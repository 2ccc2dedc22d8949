import PyProof.Rows.All
import Wide.All
import OpenK.AllK
import Wide.FinOn
import Lean
import PyProof.EqAt
import PyProof.EqKinds
import PyProof.TupleCall
import PyProof.NeKinds
import KE.KEqDict
import KE.KDictLaws
import PyProof.JoinWalk
import PyProof.ZipIter
import PyProof.WalkInts
import PyProof.ListRange
import PyProof.DictWalks
import KE.KSortTup
import PyProof.Rows.IntRules
import PyProof.Rows.StrRules
import PyProof.SetKind
import PyProof.Rows.SetFrom
import PyProof.CollectWalk
import PyProof.FactsAll.set_1
import PyProof.TupleIter
import PyProof.CollectStr
import PyProof.SetRoads
import PyProof.DictKinds
import PyProof.Rows.SortStr
import PyProof.ListMulRoad
import PyProof.FactsAll.subtypes_4
import PyProof.StrCalls
import PyProof.StrBlockH
import PyProof.StrBlockI
import PyProof.StrBlock2
import PyProof.CallStr
import KE.KIntText
import KE.IntTextText
import PyProof.StrLawsIn
import PySem.Challenge.RW_reason_k42_texts_refused
set_option Elab.async false
set_option linter.all false
set_option maxRecDepth 100000
universe u v
theorem obE {α : Type u} {β : Type v} {x : Option α} {f : α → Option β} {b : β} : x.bind f = some b → ∃ a,x = some a ∧ f a = some b:=(Option.bind_eq_some_iff).mp
theorem omE {α : Type u} {β : Type v} {x : Option α} {f : α → β} {b : β} : x.map f = some b → ∃ a,x = some a ∧ f a = b:=(Option.map_eq_some_iff).mp
theorem nlL {n m k : Nat} : n ≤ m → m < k → n < k:=Nat.lt_of_le_of_lt
theorem naL {n m : Nat} : n ≤ m → ∀ k : Nat,k + n ≤ k + m:=Nat.add_le_add_left
namespace L2
open PySem PySem.Spec PyProof.Rows
abbrev Key:=Sum Int Str
def keyIs : Key->Value->Bool
 | .inl k,v=>Value.isInt k v
 | .inr x,v=>Value.isStrOf x v
def keyH (w : World) : Key->Int
 | .inl k=>hashInt k
 | .inr x=>hashStr w x
theorem keyIs_shape : ∀ {k : Key} {v : Value},keyIs k v = true->(∃ i t,k = Sum.inl i /\ v = Value.int i t) \/ (∃ x t,k = Sum.inr x /\ v = Value.str x t)
 | .inl i,v,h=>by
  obtain ⟨t,e⟩:=Value.isInt_shape (k:=i) (v:=v) h
  exact .inl ⟨i,t,rfl,e⟩
 | .inr x,v,h=>by
  obtain ⟨t,e⟩:=Value.isStrOf_shape (x:=x) (v:=v) h
  exact .inr ⟨x,t,rfl,e⟩
theorem keyIs_int (i : Int) (t : Tok) : keyIs (.inl i) (.int i t) = true:=by simp [keyIs,Value.isInt]
theorem keyIs_str (x : Str) (t : Tok) : keyIs (.inr x) (.str x t) = true:=by simp [keyIs,Value.isStrOf]
theorem key_ll (a b : Int) : decide ((Sum.inl a : Key) = Sum.inl b) = (a == b):=by
 by_cases e : a = b
 ·subst e; simp
 ·have h : ¬ (Sum.inl a : Key) = Sum.inl b:=fun q=>e (Sum.inl.inj q)
  rw [decide_eq_false h]
  exact (beq_eq_false_iff_ne.mpr e).symm
theorem key_rr (a b : Str) : decide ((Sum.inr a : Key) = Sum.inr b) = decide (a = b):=by
 by_cases e : a = b
 ·subst e; simp
 ·have h : ¬ (Sum.inr a : Key) = Sum.inr b:=fun q=>e (Sum.inr.inj q)
  rw [decide_eq_false h,decide_eq_false e]
theorem key_lr (a : Int) (b : Str) : decide ((Sum.inl a : Key) = Sum.inr b) = false:=decide_eq_false (fun q=>nomatch q)
theorem key_rl (a : Str) (b : Int) : decide ((Sum.inr a : Key) = Sum.inl b) = false:=decide_eq_false (fun q=>nomatch q)
def mixKind (prog : Program) (w : World) : PySem.KeyKind prog w Key where
 is:=keyIs
 hash:=keyH w
 inj:=fun v a b ha hb=>by
  rcases keyIs_shape ha with ⟨i,t,rfl,rfl⟩ | ⟨x,t,rfl,rfl⟩
  ·rcases keyIs_shape hb with ⟨j,u,rfl,e⟩ | ⟨y,u,rfl,e⟩
   ·injection e with e1 _; rw [e1]
   ·exact nomatch e
  ·rcases keyIs_shape hb with ⟨j,u,rfl,e⟩ | ⟨y,u,rfl,e⟩
   ·exact nomatch e
   ·injection e with e1 _; rw [e1]
 byValue:=fun k v h=>by
  rcases keyIs_shape h with ⟨i,t,rfl,rfl⟩ | ⟨x,t,rfl,rfl⟩ <;> rfl
 pyHash:=fun hv h=>by
  rcases keyIs_shape hv with ⟨i,t,rfl,rfl⟩ | ⟨x,t,rfl,rfl⟩
  ·exact wpAny_pyHash_int h
  ·exact wpAny_pyHash_str h
 eqBool:=fun hu hv h=>by
  rcases keyIs_shape hu with ⟨i,t,rfl,rfl⟩ | ⟨x,t,rfl,rfl⟩
  ·rcases keyIs_shape hv with ⟨j,u,rfl,rfl⟩ | ⟨y,u,rfl,rfl⟩
   ·rw [key_ll] at h; exact wpAny_eqBool_int h
   ·rw [key_lr] at h; exact SeqAt.EqAt.int_str i t y u _ _ _ _ h
  ·rcases keyIs_shape hv with ⟨j,u,rfl,rfl⟩ | ⟨y,u,rfl,rfl⟩
   ·rw [key_rl] at h; exact SeqAt.EqAt.str_int x t j u _ _ _ _ h
   ·rw [key_rr] at h; exact wpAny_eqBool_str h
 «strs»:=fun k x t v h=>by
  rcases keyIs_shape h with ⟨i,u,rfl,e⟩ | ⟨y,u,rfl,e⟩
  ·exact nomatch e
  ·injection e with e1 _
   subst e1
   cases v <;> rfl
theorem mixKind_int (prog : Program) (w : World) (i : Int) (t : Tok) : (mixKind prog w).is (.inl i) (.int i t) = true:=keyIs_int i t
theorem mixKind_str (prog : Program) (w : World) (x : Str) (t : Tok) : (mixKind prog w).is (.inr x) (.str x t) = true:=keyIs_str x t
inductive V where
 | non | bl (b : Bool) | int (i : Int) | str (x : Str) | byt (b : Array UInt8) | flt (b : UInt64) | ref (a : Addr) | ty (n : String)
 deriving DecidableEq
def RelV : V->Value->Prop
 | .non,u=>u = Value.none
 | .bl b,u=>u = Value.bool b
 | .int i,u=>∃ t,u = Value.int i t
 | .str x,u=>∃ t,u = Value.str x t
 | .byt b,u=>∃ t,u = Value.bytes b t
 | .flt b,u=>∃ t,u = Value.float b t
 | .ref a,u=>u = Value.ref a
 | .ty n,u=>u = Value.type n
abbrev Vals : List V->List Value->Prop:=Paired RelV
theorem Vals.length {xs : List V} {us : List Value} (r : Vals xs us) : xs.length = us.length:=Paired.length r
theorem Vals.get : ∀ {xs : List V} {us : List Value} {i : Nat} {x : V},Vals xs us->xs[i]? = some x->∃ u,us[i]? = some u /\ RelV x u
 | _,_,_,_,.nil,e=>by simp at e
 | _,_,0,_,.cons r _,e=>by simp at e; subst e; exact ⟨_,rfl,r⟩
 | _,_,i + 1,x,.cons _ t,e=>by
  obtain ⟨u,h1,h2⟩:=Vals.get (i:=i) (x:=x) t (by simpa using e)
  exact ⟨u,by simpa using h1,h2⟩
theorem Vals.append : ∀ {xs ys : List V} {us ws : List Value},Vals xs us->Vals ys ws->Vals (xs++ys) (us++ws)
 | _,_,_,_,.nil,s=>s
 | _,_,_,_,.cons r t,s=>.cons r (Vals.append t s)
theorem Vals.take : ∀ {xs : List V} {us : List Value} (n : Nat),Vals xs us->Vals (xs.take n) (us.take n)
 | _,_,0,_=>.nil
 | _,_,_ + 1,.nil=>.nil
 | _,_,n + 1,.cons r t=>.cons r (Vals.take n t)
theorem Vals.drop : ∀ {xs : List V} {us : List Value} (n : Nat),Vals xs us->Vals (xs.drop n) (us.drop n)
 | _,_,0,r=>r
 | _,_,_ + 1,.nil=>.nil
 | _,_,n + 1,.cons _ t=>Vals.drop n t
def RelO : Option V->Option Value->Prop
 | some v,some u=>RelV v u
 | none,none=>True
 | _,_=>False
def KV {κ : Type} : List (κ × V)->List (κ × Value)->Prop:=Paired fun (p : κ × V) (q : κ × Value)=>p.1 = q.1 /\ RelV p.2 q.2
def kV : Key->V
 | .inl i=>.int i
 | .inr x=>.str x
inductive HO where
 /-- a list -/
 | lst (xs : List V)
 /-- a tuple (never changes) -/
 | tup (xs : List V)
 /-- a dict whose keys are ints and texts; one whose keys are tuples of ints and texts (the empty one is both) -/
 | dK (kvs : List (Key × V)) | dT (kvs : List (List Key × V))
 /-- a set of ints: its members,its size -/
 | set (S : Int->Bool) (n : Nat)
 /-- an instance of the class at C,its dict at dx,its attributes -/
 | ins (C dx : Addr) (fs : List (Str × V))
 /-- the dict of the instance at x -/
 | own (x : Addr)
 /-- the dict of an exception -/
 | xd (fs : List (Str × V))
 /-- a bound method,f of x -/
 | met (f x : Addr)
 /-- a range object lo,lo + 1,.. below hi -/
 | rng (lo hi : Int)
 /-- a thing that is known to the object (the script; a dict while a loop walks it): read,never written while it is so -/
 | frz (o : Obj) (u : HO)
 /-- a code object's table -/
 | tbl (ps : Array Value)
 /-- any other thing,by what is true of its one object (a def of one's own: SetO a S n:=HO.ext fun h=>..) -/
 | ext (φ : Heap->Prop)
abbrev Hp:=Addr->Option HO
def upd (H : Hp) (a : Addr) (o : HO) : Hp:=fun b=>if b = a then some o else H b
theorem upd_same {H : Hp} {a : Addr} {o : HO} : upd H a o a = some o:=by unfold upd; rw [if_pos rfl]
theorem upd_ne {H : Hp} {a b : Addr} {o : HO} (h : b ≠ a) : upd H a o b = H b:=by unfold upd; rw [if_neg h]
theorem ne_of_none {H : Hp} {a b : Addr} {o : HO} (h : H a = some o) (h' : H b = none) : a ≠ b:=by
 intro e; subst e; rw [h] at h'; cases h'
section
variable (P : Program) (w : World)
def ObjOk (H : Hp) (h : Heap) (a : Addr) : HO->Prop
 | .lst xs=>xs.length <= sizeLine /\ ∃ (its : List Value) (n : Nat),Vals xs its /\ h.get? a = some { cls:=.type "list",data:=.seq its.toArray n }
 | .tup xs=>xs.length <= sizeLine /\ ∃ its : List Value,Vals xs its /\ IsTup h a its.toArray
 | .dK kvs=>kvs.length <= sizeLine /\ (a == sysModules) = false /\ ∃ vs,KV kvs vs /\ h.DictOf (mixKind P w) a vs
 | .dT kvs=>kvs.length <= sizeLine /\ (a == sysModules) = false /\ ∃ xs : List (List Key × Addr × Value),
   Paired (fun (p : List Key × V) (q : List Key × Addr × Value)=>p.1 = q.1 /\ H q.2.1 = some (.tup (p.1.map kV)) /\ RelV p.2 q.2.2) kvs xs /\
   ∃ o es ep,h.get? a = some o /\ o.ExactDict /\ o.data = .dict es ep /\ es.toList = xs.map (entryOfKey (tupleKind (mixKind P w))) /\ (xs.map (·.1)).Nodup
 | .set S n=>h.SetOf (intKind P w) a S n
 | .ins C dx fs=>H dx = some (.own a) /\ fs.length <= 1000 /\ dx ≠ a /\ h.get? a = some (PySem.W.instObj C dx) /\
   ∃ mA,h.Ns1 dx mA /\ (∀ f,RelO (fs.lookup f) (mA f)) /\ PySem.Within mA (fs.map (·.1))
 | .own _=>∃ o,h.get? a = some o
 | .xd fs=>∃ mA,h.Ns1 a mA /\ ∀ f,RelO (fs.lookup f) (mA f)
 | .rng lo hi=>∃ t u v,h.get? a = some { cls:=.type "range",data:=.fields #[.int lo t,.int hi u,.int 1 v] }
 | .frz o u=>h.get? a = some o /\ ObjOk H h a u
 | .tbl ps=>h.get? a = some { cls:=.none,data:=.fields ps }
 | .met f x=>h.get? a = some (PySem.W.methodObj (.ref f) (.ref x))
 | .ext φ=>φ h /\ (∃ o,h.get? a = some o) /\ ∀ h1 h2 : Heap,φ h1->(∀ o,h1.get? a = some o->h2.get? a = some o)->φ h2
def HOk (H : Hp) (h : Heap) : Prop:=∀ a o,H a = some o->ObjOk P w H h a o
end
section
variable {P : Program} {w : World} {H H' : Hp} {h h' : Heap} {a : Addr} {o : HO}
theorem ObjOk.lt (x : ObjOk P w H h a o) : a < h.objs.size:=by
 cases o with
 | lst xs=>obtain ⟨_,_,_,_,e⟩:=x; exact Heap.lt_size e
 | tup xs=>obtain ⟨_,_,_,p⟩:=x; exact p.lt
 | dK kvs=>obtain ⟨_,_,_,_,o,_,_,e,_⟩:=x; exact Heap.lt_size e
 | dT kvs=>obtain ⟨_,_,_,_,o,_,_,e,_⟩:=x; exact Heap.lt_size e
 | set S n=>obtain ⟨o,_,_,_,e,_⟩:=x; exact Heap.lt_size e
 | ins C dx fs=>obtain ⟨_,_,_,e,_⟩:=x; exact Heap.lt_size e
 | own y=>obtain ⟨_,e⟩:=x; exact Heap.lt_size e
 | xd fs=>obtain ⟨_,⟨_,_,_,e,_⟩,_⟩:=x; exact Heap.lt_size e
 | rng lo hi=>obtain ⟨_,_,_,e⟩:=x; exact Heap.lt_size e
 | frz ob u=>obtain ⟨e,_⟩:=x; exact Heap.lt_size e
 | tbl ps=>exact Heap.lt_size (show h.get? a = some _ from x)
 | met f y=>exact Heap.lt_size (show h.get? a = some _ from x)
 | ext φ=>obtain ⟨_,⟨_,e⟩,_⟩:=x; exact Heap.lt_size e
theorem Paired.mapP {α β : Type} {F G : α->β->Prop} : ∀ {l₁ : List α} {l₂ : List β},Paired F l₁ l₂->(∀ a b,F a b->G a b)->Paired G l₁ l₂
 | _,_,.nil,_=>.nil
 | _,_,.cons r t,f=>.cons (f _ _ r) (Paired.mapP t f)
theorem ObjOk.stay (x : ObjOk P w H h a o) (k : ∀ b u,(b = a \/ H b = some (.own a))->h.get? b = some u->h'.get? b = some u)
  (ho : ∀ b,H b = some (.own a)->H' b = some (.own a)) (ht : ∀ b xs,H b = some (.tup xs)->H' b = some (.tup xs)) : ObjOk P w H' h' a o:=by
 induction o with
 | lst xs=>obtain ⟨z,its,n,r,e⟩:=x; exact ⟨z,its,n,r,k _ _ (.inl rfl) e⟩
 | tup xs=>obtain ⟨z,its,r,ob,e,c⟩:=x; exact ⟨z,its,r,ob,k _ _ (.inl rfl) e,c⟩
 | dK kvs=>obtain ⟨z,y,vs,r,ob,es,ep,e,c⟩:=x; exact ⟨z,y,vs,r,ob,es,ep,k _ _ (.inl rfl) e,c⟩
 | dT kvs=>
  obtain ⟨z,y,xs,r,ob,es,ep,e,c⟩:=x
  exact ⟨z,y,xs,Paired.mapP r fun p q z=>⟨z.1,ht _ _ z.2.1,z.2.2⟩,ob,es,ep,k _ _ (.inl rfl) e,c⟩
 | set S n=>obtain ⟨ob,es,ep,t,e,c⟩:=x; exact ⟨ob,es,ep,t,k _ _ (.inl rfl) e,c⟩
 | ins C dx fs=>
  obtain ⟨d,z,ne,e,mA,⟨od,es,ep,e2,c⟩,r⟩:=x
  exact ⟨ho _ d,z,ne,k _ _ (.inl rfl) e,mA,⟨od,es,ep,k _ _ (.inr d) e2,c⟩,r⟩
 | own y=>obtain ⟨ob,e⟩:=x; exact ⟨ob,k _ _ (.inl rfl) e⟩
 | xd fs=>obtain ⟨mA,⟨od,es,ep,e,c⟩,r⟩:=x; exact ⟨mA,⟨od,es,ep,k _ _ (.inl rfl) e,c⟩,r⟩
 | rng lo hi=>obtain ⟨t,u,v,e⟩:=x; exact ⟨t,u,v,k _ _ (.inl rfl) e⟩
 | frz ob u ih=>obtain ⟨e,q⟩:=x; exact ⟨k _ _ (.inl rfl) e,ih q⟩
 | tbl ps=>
  have e : h.get? a = some { cls:=.none,data:=.fields ps }:=x
  show h'.get? a = some { cls:=.none,data:=.fields ps }
  exact k a _ (.inl rfl) e
 | met f y=>
  have e : h.get? a = some (PySem.W.methodObj (.ref f) (.ref y)):=x
  show h'.get? a = some (PySem.W.methodObj (.ref f) (.ref y))
  exact k a _ (.inl rfl) e
 | ext φ=>obtain ⟨p,⟨o,e⟩,st⟩:=x; exact ⟨st _ _ p fun o q=>k _ _ (.inl rfl) q,⟨o,k _ _ (.inl rfl) e⟩,st⟩
theorem HOk.lt (x : HOk P w H h) (e : H a = some o) : a < h.objs.size:=(x a o e).lt
theorem HOk.fresh (x : HOk P w H h) (e : h.objs.size <= a) : H a = none:=by
 cases q : H a with
 | none=>rfl
 | some u=>exact absurd (Nat.lt_of_lt_of_le (x.lt q) e) (Nat.lt_irrefl _)
theorem HOk.kept (x : HOk P w H h) (k : ∀ b u,h.get? b = some u->h'.get? b = some u) : HOk P w H h':=fun a o e=>
 (x a o e).stay (fun b u _ q=>k b u q) (fun _ q=>q) fun _ _ q=>q
theorem HOk.laid (x : HOk P w H h) (k : ∀ b u,h.get? b = some u->h'.get? b = some u) (hp : h.objs.size <= a) (new : ObjOk P w (upd H a o) h' a o) : HOk P w (upd H a o) h':=fun b u e=>by
 have hn:=x.fresh hp
 by_cases hb : b = a
 ·subst hb; rw [upd_same] at e; cases e; exact new
 ·rw [upd_ne hb] at e
  exact (x b u e).stay (fun c v _ q=>k c v q) (fun c q=>by rw [upd_ne (ne_of_none q hn)]; exact q) fun c xs q=>by rw [upd_ne (ne_of_none q hn)]; exact q
end
def Rd (H : Hp) (a : Addr) (u : HO) : Prop:=H a = some u \/ ∃ o,H a = some (.frz o u)
theorem Rd.ok {P : Program} {w : World} {H : Hp} {h : Heap} {a : Addr} {u : HO} (r : Rd H a u) (x : HOk P w H h) : ObjOk P w H h a u:=by
 rcases r with r | ⟨o,r⟩
 ·exact x a u r
 ·obtain ⟨_,q⟩:=x a _ r
  exact q
def Mut : Option HO->Prop
 | some (.lst _)=>True
 | some (.dK _)=>True
 | some (.dT _)=>True
 | some (.set _ _)=>True
 | some (.ins _ _ _)=>True
 | some (.ext _)=>True
 | _=>False
section
variable {P : Program} {w : World} {H : Hp} {h h' : Heap} {x e : Addr} {o' : HO}
theorem HOk.write (ok : HOk P w H h) (mu : Mut (H x)) (he : e = x \/ H e = some (.own x)) (k : ∀ b u,b ≠ e->h.get? b = some u->h'.get? b = some u) (heo : ∃ u,h'.get? e = some u)
  (new : ObjOk P w (upd H x o') h' x o') : HOk P w (upd H x o') h':=fun b u q=>by
 have nown : ∀ c y,H c = some (.own y)->c ≠ x:=fun c y r z=>by subst z; rw [r] at mu; exact mu
 have ntup : ∀ c xs,H c = some (.tup xs)->c ≠ x:=fun c xs r z=>by subst z; rw [r] at mu; exact mu
 by_cases hb : b = x
 ·subst hb; rw [upd_same] at q; cases q; exact new
 ·rw [upd_ne hb] at q
  by_cases hbe : b = e
  ·have q' : H b = some (.own x):=by
    rcases he with z | z
    ·exact absurd (hbe.trans z) hb
    ·rw [hbe]; exact z
   rw [q] at q'; cases q'
   obtain ⟨v,hv⟩:=heo
   exact ⟨v,by rw [hbe]; exact hv⟩
  ·refine (ok b u q).stay (fun c v hc r=>k c v ?_ r) (fun c r=>by rw [upd_ne (nown c b r)]; exact r) fun c xs r=>by rw [upd_ne (ntup c xs r)]; exact r
   rcases hc with rfl | hc
   ·exact hbe
   ·rintro rfl
    rcases he with z | z
    ·exact nown c b hc z
    ·rw [hc] at z; cases z; exact hb rfl
end
structure Un (fs ex : List Addr) (H H' : Hp) (h h' : Heap) : Prop where
 keep : ∀ b o,h.get? b = some o->H b = none->b ∉ fs->b ∉ ex->h'.get? b = some o
 slot : ∀ b o,h.get? b = some o->H b = none->b ∈ fs->b ∉ ex->∃ sl,h'.get? b = some { o with slots:=sl }
 free : ∀ b o,h.get? b = some o->H b = none->b ∉ ex->H' b = none
 there : ∀ b o,h.get? b = some o->b ∉ ex->∃ o',h'.get? b = some o'
 tups : ∀ b xs,H b = some (.tup xs)->H' b = some (.tup xs)
 frzs : ∀ b o u,H b = some (.frz o u)->H' b = some (.frz o u)
 tbls : ∀ b ps,H b = some (.tbl ps)->∃ more,H' b = some (.tbl (ps++more))
section
variable {fs fs' ex ex' : List Addr} {H H1 H2 : Hp} {h h1 h2 h' : Heap} {a x e : Addr} {o : HO}
theorem Un.any (u : Un fs ex H H1 h h1) {b : Addr} {ob : Obj} (q : h.get? b = some ob) (n : H b = none) (hx : b ∉ ex) : ∃ sl,h1.get? b = some { ob with slots:=sl }:=by
 by_cases hb : b ∈ fs
 ·exact u.slot b ob q n hb hx
 ·exact ⟨ob.slots,u.keep b ob q n hb hx⟩
theorem Un.kept (k : ∀ b u,h.get? b = some u->h'.get? b = some u) : Un fs ex H H h h':=
 ⟨fun b ob q _ _ _=>k b ob q,fun b ob q _ _ _=>⟨ob.slots,k b ob q⟩,fun _ _ _ n _=>n,fun b ob q _=>⟨ob,k b ob q⟩,fun _ _ q=>q,fun _ _ _ q=>q,fun _ ps q=>⟨#[],by rw [q]; simp⟩⟩
theorem Un.refl : Un fs ex H H h h:=Un.kept fun _ _ q=>q
theorem Un.laid (k : ∀ b u,h.get? b = some u->h'.get? b = some u) (hp : h.objs.size <= a) (hn : H a = none) : Un fs ex H (upd H a o) h h' where
 keep:=fun b u q _ _ _=>k b u q
 slot:=fun b u q _ _ _=>⟨u.slots,k b u q⟩
 free:=fun b u q n _=>by rw [upd_ne (Nat.ne_of_lt (Nat.lt_of_lt_of_le (Heap.lt_size q) hp))]; exact n
 there:=fun b u q _=>⟨u,k b u q⟩
 tups:=fun b xs q=>by rw [upd_ne (ne_of_none q hn)]; exact q
 frzs:=fun b u xs q=>by rw [upd_ne (ne_of_none q hn)]; exact q
 tbls:=fun b ps q=>⟨#[],by rw [upd_ne (ne_of_none q hn),q]; simp⟩
theorem Un.write (mu : Mut (H x)) (he : e = x \/ H e = some (.own x)) (k : ∀ b u,b ≠ e->h.get? b = some u->h'.get? b = some u) (heo : ∃ u,h'.get? e = some u) : Un fs ex H (upd H x o) h h':=by
 have hx : ∀ b,H b = none->b ≠ x:=fun b n z=>by subst z; rw [n] at mu; exact mu
 have hb : ∀ b,H b = none->b ≠ e:=fun b n z=>by
  subst z
  rcases he with r | r
  ·exact hx b n r
  ·rw [n] at r; cases r
 have hm : ∀ b u,H b = some u->¬ Mut (some u)->b ≠ x:=fun b u q nm z=>by subst z; rw [q] at mu; exact nm mu
 refine ⟨fun b u q n _ _=>k b u (hb b n) q,fun b u q n _ _=>⟨u.slots,k b u (hb b n) q⟩,fun b u q n _=>by rw [upd_ne (hx b n)]; exact n,fun b u q _=>?_,
  fun b xs q=>by rw [upd_ne (hm b _ q fun z=>z)]; exact q,fun b u xs q=>by rw [upd_ne (hm b _ q fun z=>z)]; exact q,fun b ps q=>⟨#[],by rw [upd_ne (hm b _ q fun z=>z),q]; simp⟩⟩
 by_cases hbe : b = e
 ·subst hbe; exact heo
 ·exact ⟨u,k b u hbe q⟩
end
def trk (h : Heap) (H : Hp) : List Addr:=(List.range h.objs.size).filter fun a=>(H a).isSome
def hidT (h : Heap) (H : Hp) : Heap:=PySem.W.hideAll h (trk h H)
theorem hidT_size (h : Heap) (H : Hp) : (hidT h H).objs.size = h.objs.size:=PySem.W.hideAll_size _ _
theorem hidT_get {h : Heap} {H : Hp} {b : Addr} {o : Obj} (e : h.get? b = some o) (n : H b = none) : (hidT h H).get? b = some o:=
 PySem.W.hideAll_get _ e fun hm=>by
  have q : (H b).isSome = true:=(List.mem_filter.mp hm).2
  rw [n] at q; simp at q
theorem of_hidT {h : Heap} {H : Hp} {b : Addr} {o : Obj} (e : (hidT h H).get? b = some o) : h.get? b = some o /\ H b = none:=by
 have e' : h.get? b = some o:=PySem.W.of_hideAll (trk h H) e
 refine ⟨e',?_⟩
 cases q : H b with
 | none=>rfl
 | some x=>
  have hm : b ∈ trk h H:=List.mem_filter.mpr ⟨List.mem_range.mpr (Heap.lt_size e'),by simp [q]⟩
  have z : (hidT h H).get? b = none:=PySem.W.hideAll_none (trk h H) hm
  rw [z] at e; cases e
def allNews (g h : Heap) (L : Addr) : List (Addr × Obj):=(List.range h.objs.size).filterMap fun a=>if a = L \/ (g.get? a).isSome = true then none else (h.get? a).map fun o=>(a,o)
def rest (g h : Heap) (L d : Addr) : List (Addr × Obj):=(allNews g h L).filter fun p=>decide (p.1 ≠ d)
structure Mod (K : PySem.W.Frag) (mg : Str->Option Value) (base : Heap) : Prop where
 kin : K.In base
 glob : base.Ns mainGlobals mg
 blt : ∃ mb,base.Ns builtinsNs mb /\ ∀ x : Str,x ≠ "__name__"->mb x = bootBuiltins x
 nolimit : base.NoLimit
structure Cx where
 prog : Program
 w : World
 K : PySem.W.Frag
 mg : Str->Option Value
 base : Heap
 A : Around
 N : List Str
 s₀ : Shared
 H₀ : Hp
 env : Env
 outer : List Env
 stack : List Env
 ex : List Addr
 fn : Str->Bool
 calm : Bool
 pn : List (Addr × Obj)
 xe : Value->Shared->Prop
def frs (l : List Env) : List Addr:=l.filterMap (·.frame)
abbrev Cx.fs (X : Cx) : List Addr:=frs X.outer
def Vis (sc : Scope) (x : Str) : Prop:=sc.names.lookup x = some .local \/ sc.names.lookup x = some .cell \/ sc.names.lookup x = some .free
def Loc (sc : Scope) (x : Str) : Prop:=sc.names.lookup x = some .local \/ sc.names.lookup x = some .cell
def Look (env : Env) (h : Heap) (m : Str->Option Value) (x : Str) (u : Value) : Prop:=
 (env.kindOf x = some .local /\ m x = some u) \/ ((env.kindOf x = some .cell \/ env.kindOf x = some .free) /\ ∃ c,env.cells.lookup x = some c /\ h.IsCell c (some u))
structure Cx.Ok (X : Cx) : Prop where
 mod : Mod X.K X.mg X.base
 kind : X.env.scope.kind = .function
 glob : X.env.globals = mainGlobals
 blt : X.env.builtins = builtinsNs
 above : X.s₀.heap.objs.size <= X.env.locals
 inj : ∀ x y c,X.env.cells.lookup x = some c->X.env.cells.lookup y = some c->x = y
 has : ∀ x,(X.env.kindOf x = some .cell \/ X.env.kindOf x = some .free)->∃ c,X.env.cells.lookup x = some c
 cab : ∀ x c,X.fn x = true->X.env.cells.lookup x = some c->X.s₀.heap.objs.size <= c
 hd : X.calm = true->X.A.handled = none
 frames : X.A.frames = some X.stack
 stk : X.stack = X.outer \/ (X.stack = X.env::X.outer /\ X.env.frame = some X.env.locals)
 exf : ∀ b ∈ X.ex,b ≠ X.env.locals /\ ∀ x c,X.env.cells.lookup x = some c->c ≠ b
 bs : ∀ b o,X.base.get? b = some o->X.s₀.heap.get? b = some o /\ X.H₀ b = none
 bsz : X.base.objs.size <= X.s₀.heap.objs.size
 noex : ∀ b o,X.base.get? b = some o->b ∉ X.ex
 exfs : ∀ b ∈ X.ex,b ∉ X.fs
 funs : X.s₀.heap.FunFrames X.base X.outer
 frf : ∀ b ∈ X.fs,X.H₀ b = none
structure Inv (X : Cx) (pins : List (Addr × Obj)) (σ : List (Option V)) (H : Hp) (s : Shared) : Prop where
 ok : X.Ok
 os : s.os = X.s₀.os
 bare : AllBare s.gens
 base : Un X.fs X.ex X.H₀ H X.s₀.heap s.heap
 loc : ∃ m,s.heap.Ns X.env.locals m /\ ∀ (i : Nat) (x : Str) (v : V),X.N[i]? = some x->σ[i]? = some (some v)->Vis X.env.scope x->∃ u,RelV v u /\ Look X.env s.heap m x u
 cell : ∀ x c,X.env.cells.lookup x = some c->∃ v,s.heap.IsCell c v
 free : H X.env.locals = none
 freeC : ∀ x c,X.env.cells.lookup x = some c->H c = none
 pin : ∀ p ∈ X.pn++pins,s.heap.get? p.1 = some p.2 /\ H p.1 = none /\ p.1 ≠ X.env.locals /\ p.1 ∉ X.fs /\ ∀ v,p.2.data ≠ .cell v
 hok : HOk X.prog X.w H s.heap
 len : σ.length = X.N.length
section
variable {X : Cx} {pins : List (Addr × Obj)} {σ : List (Option V)} {H H' : Hp} {s : Shared} {h' : Heap}
theorem Cx.Ok.nofr (ok : X.Ok) {b : Addr} {o : Obj} (e : X.base.get? b = some o) : b ∉ X.fs:=fun hb=>by
 have:=(ok.funs.mem hb).1
 rw [e] at this; cases this
theorem Inv.bs (I : Inv X pins σ H s) : ∀ b o,X.base.get? b = some o->s.heap.get? b = some o /\ H b = none:=fun b o e=>
 ⟨I.base.keep b o (I.ok.bs b o e).1 (I.ok.bs b o e).2 (I.ok.nofr e) (I.ok.noex b o e),I.base.free b o (I.ok.bs b o e).1 (I.ok.bs b o e).2 (I.ok.noex b o e)⟩
theorem Inv.bk (I : Inv X pins σ H s) : ∀ b o,X.base.get? b = some o->s.heap.get? b = some o:=fun b o e=>(I.bs b o e).1
theorem Inv.mod (I : Inv X pins σ H s) : Mod X.K X.mg X.base:=I.ok.mod
theorem Inv.kIn (I : Inv X pins σ H s) : X.K.In s.heap:=I.ok.mod.kin.keeps I.bk
theorem Inv.fr (I : Inv X pins σ H s) : ∃ m,Fr X.base X.env.locals s.heap m:=
 let ⟨m,hn,_⟩:=I.loc
 ⟨m,hn,I.bk,Nat.le_trans I.ok.bsz I.ok.above⟩
theorem Inv.lt (I : Inv X pins σ H s) : X.env.locals < s.heap.objs.size:=let ⟨_,hn,_⟩:=I.loc; hn.lt
theorem Inv.sz (I : Inv X pins σ H s) : X.s₀.heap.objs.size <= s.heap.objs.size:=Nat.le_trans I.ok.above (Nat.le_of_lt I.lt)
theorem Inv.nofs (I : Inv X pins σ H s) {a : Addr} (h : s.heap.objs.size <= a) : a ∉ X.fs:=fun hb=>by
 obtain ⟨_,o,ho,_⟩:=I.ok.funs.mem hb
 exact absurd (Nat.lt_of_lt_of_le (Heap.lt_size ho) (Nat.le_trans I.sz h)) (Nat.lt_irrefl _)
theorem Inv.cne (I : Inv X pins σ H s) : ∀ x c,X.env.cells.lookup x = some c->c ≠ X.env.locals:=fun x c e z=>by
 obtain ⟨v,o,ho,hd⟩:=I.cell x c e
 obtain ⟨m,⟨o',es,ep,ho',hd',_⟩,_⟩:=I.loc
 rw [z,ho'] at ho; cases ho; rw [hd'] at hd; cases hd
theorem Inv.funs (I : Inv X pins σ H s) : s.heap.FunFrames X.base X.outer:=by
 have all : ∀ (l : List Env),(∀ b ∈ frs l,b ∈ X.fs)->X.s₀.heap.FunFrames X.base l->s.heap.FunFrames X.base l:=by
  intro l
  induction l with
  | nil=>intro _ _; trivial
  | cons env r ih=>
   intro hs hl
   obtain ⟨hk,⟨L,o,hf,hn,ho,hd⟩,hr⟩:=hl
   have hL : L ∈ X.fs:=hs L (by unfold frs; rw [List.filterMap_cons,hf]; exact List.mem_cons_self)
   obtain ⟨sl,e⟩:=I.base.slot L o ho (I.ok.frf L hL) hL fun z=>I.ok.exfs L z hL
   exact ⟨hk,⟨L,_,hf,hn,e,hd⟩,ih (fun b hb=>hs b (by unfold frs; rw [List.filterMap_cons,hf]; exact List.mem_cons_of_mem _ hb)) hr⟩
 exact all X.outer (fun _ hb=>hb) I.ok.funs
theorem Inv.stack (I : Inv X pins σ H s) : s.heap.FunFrames X.base X.stack:=by
 rcases I.ok.stk with e | ⟨e,hf⟩
 ·rw [e]; exact I.funs
 ·rw [e]
  obtain ⟨m,hn,_⟩:=I.loc
  refine .cons (by rw [I.ok.kind]; decide) hf hn ?_ I.funs
  exact Heap.get?_none_of_le (Nat.le_trans I.ok.bsz I.ok.above)
theorem Inv.stkSub (I : Inv X pins σ H s) : ∀ b ∈ frs X.stack,b ∈ X.env.locals::X.fs:=fun b hb=>by
 rcases I.ok.stk with e | ⟨e,hf⟩
 ·rw [e] at hb; exact List.mem_cons_of_mem _ hb
 ·rw [e] at hb
  unfold frs at hb
  rw [List.filterMap_cons,hf] at hb
  exact hb
theorem Inv.stkFree (I : Inv X pins σ H s) : ∀ b ∈ frs X.stack,H b = none:=fun b hb=>by
 rcases List.mem_cons.mp (I.stkSub b hb) with e | hb
 ·rw [e]; exact I.free
 ·obtain ⟨_,o,ho,_⟩:=I.ok.funs.mem hb
  exact I.base.free b o ho (I.ok.frf b hb) fun z=>I.ok.exfs b z hb
theorem Inv.step {g' : Array GenState} {t' : Nat} {d' : Drawn} {ch : List Addr} (I : Inv X pins σ H s)
  (hch : ∀ b ∈ ch,(b ∈ X.ex \/ X.s₀.heap.objs.size <= b) /\ b ≠ X.env.locals /\ (∀ x c,X.env.cells.lookup x = some c->c ≠ b) /\ ∀ p ∈ X.pn++pins,p.1 ≠ b)
  (keep : ∀ b o,b ≠ X.env.locals->b ∉ X.fs->b ∉ ch->s.heap.get? b = some o->H b = none->h'.get? b = some o)
  (slot : ∀ b o,b ≠ X.env.locals->b ∈ X.fs->b ∉ ch->s.heap.get? b = some o->H b = none->∃ sl,h'.get? b = some { o with slots:=sl }) (free : ∀ b o,b ∉ ch->s.heap.get? b = some o->H b = none->H' b = none)
  (there : ∀ b o,b ∉ ch->s.heap.get? b = some o->∃ o',h'.get? b = some o')
  (tups : ∀ b xs,H b = some (.tup xs)->H' b = some (.tup xs)) (frzs : ∀ b o u,H b = some (.frz o u)->H' b = some (.frz o u)) (tbls : ∀ b ps,H b = some (.tbl ps)->∃ more,H' b = some (.tbl (ps++more)))
  (ns : ∀ m,s.heap.Ns X.env.locals m->h'.Ns X.env.locals m) (hok : HOk X.prog X.w H' h') (hg : AllBare g') :
  Inv X pins σ H' { s with heap:=h',gens:=g',drawn:=d',toks:=t' }:=by
 have neL : ∀ b o,X.s₀.heap.get? b = some o->b ≠ X.env.locals:=fun b o e=>Nat.ne_of_lt (Nat.lt_of_lt_of_le (Heap.lt_size e) I.ok.above)
 have neC : ∀ b o,X.s₀.heap.get? b = some o->b ∉ X.ex->b ∉ ch:=fun b o e hx hb=>by
  rcases (hch b hb).1 with z | z
  ·exact hx z
  ·exact absurd (Nat.lt_of_lt_of_le (Heap.lt_size e) z) (Nat.lt_irrefl _)
 have cellK : ∀ x c,X.env.cells.lookup x = some c->∀ v,s.heap.IsCell c v->h'.IsCell c v:=fun x c e v ⟨o,ho,hd⟩=>by
  have nch : c ∉ ch:=fun z=>(hch c z).2.2.1 x c e rfl
  by_cases hc : c ∈ X.fs
  ·obtain ⟨sl,q⟩:=slot c o (I.cne x c e) hc nch ho (I.freeC x c e)
   exact ⟨_,q,hd⟩
  ·exact ⟨o,keep c o (I.cne x c e) hc nch ho (I.freeC x c e),hd⟩
 refine ⟨I.ok,I.os,hg,⟨fun b o e n hb hx=>?_,fun b o e n hb hx=>?_,fun b o e n hx=>?_,fun b o e hx=>?_,fun b xs e=>tups b xs (I.base.tups b xs e),fun b o xs e=>frzs b o xs (I.base.frzs b o xs e),fun b ps e=>?_⟩,?_,fun x c e=>?_,?_,fun x c e=>?_,fun p hp=>?_,hok,I.len⟩
 ·exact keep b o (neL b o e) hb (neC b o e hx) (I.base.keep b o e n hb hx) (I.base.free b o e n hx)
 ·obtain ⟨sl,e1⟩:=I.base.slot b o e n hb hx
  obtain ⟨sl',e2⟩:=slot b _ (neL b o e) hb (neC b o e hx) e1 (I.base.free b o e n hx)
  exact ⟨sl',e2⟩
 ·obtain ⟨o',e1⟩:=I.base.there b o e hx
  exact free b o' (neC b o e hx) e1 (I.base.free b o e n hx)
 ·obtain ⟨o',e1⟩:=I.base.there b o e hx
  exact there b o' (neC b o e hx) e1
 ·obtain ⟨m1,e1⟩:=I.base.tbls b ps e
  obtain ⟨m2,e2⟩:=tbls b _ e1
  exact ⟨m1++m2,by rw [e2,Array.append_assoc]⟩
 ·obtain ⟨m,hn,hl⟩:=I.loc
  refine ⟨m,ns m hn,fun i x v e1 e2 e3=>?_⟩
  obtain ⟨u,r,l⟩:=hl i x v e1 e2 e3
  refine ⟨u,r,?_⟩
  rcases l with l | ⟨k,c,e,z⟩
  ·exact .inl l
  ·exact .inr ⟨k,c,e,cellK x c e _ z⟩
 ·obtain ⟨v,z⟩:=I.cell x c e
  exact ⟨v,cellK x c e v z⟩
 ·obtain ⟨m,⟨o,_,_,ho,_⟩,_⟩:=I.loc
  exact free _ o (fun z=>(hch _ z).2.1 rfl) ho I.free
 ·obtain ⟨v,o,ho,hd⟩:=I.cell x c e
  exact free c o (fun z=>(hch c z).2.2.1 x c e rfl) ho (I.freeC x c e)
 ·obtain ⟨e,n,ne,nf,d⟩:=I.pin p hp
  have nch : p.1 ∉ ch:=fun z=>(hch p.1 z).2.2.2 p hp rfl
  exact ⟨keep p.1 p.2 ne nf nch e n,free p.1 p.2 nch e n,ne,nf,d⟩
theorem Inv.un {t' : Nat} (I : Inv X pins σ H s) (u : Un X.fs [] H H' s.heap h') (hok : HOk X.prog X.w H' h') : Inv X pins σ H' { s with heap:=h',toks:=t' }:=by
 obtain ⟨m,⟨o,es,ep,ho,r⟩,_⟩:=id I.loc
 obtain ⟨sl,hL⟩:=u.any ho I.free (by simp)
 exact I.step (g':=s.gens) (d':=s.drawn) (ch:=[]) (fun _ z=>nomatch z) (fun b o _ hb _ e n=>u.keep b o e n hb (by simp)) (fun b o _ hb _ e n=>u.slot b o e n hb (by simp)) (fun b o _ e n=>u.free b o e n (by simp)) (fun b o _ e=>u.there b o e (by simp)) u.tups u.frzs u.tbls (fun m' hm=>by
  obtain ⟨o',es',ep',ho',r'⟩:=hm
  rw [ho] at ho'; cases ho'
  exact ⟨_,es',ep',hL,r'⟩) hok I.bare
theorem Inv.call {g' : Array GenState} {t' : Nat} {d' : Drawn} {ch : List Addr} (I : Inv X pins σ H s) (u : Un (frs X.stack) ch H H' s.heap h') (hok : HOk X.prog X.w H' h') (hg : AllBare g')
  (hch : ∀ b ∈ ch,(b ∈ X.ex \/ X.s₀.heap.objs.size <= b) /\ b ≠ X.env.locals /\ (∀ x c,X.env.cells.lookup x = some c->c ≠ b) /\ ∀ p ∈ X.pn++pins,p.1 ≠ b) :
  Inv X pins σ H' { s with heap:=h',gens:=g',drawn:=d',toks:=t' }:=by
 obtain ⟨m,⟨o,es,ep,ho,r⟩,_⟩:=id I.loc
 obtain ⟨sl,hL⟩:=u.any ho I.free fun z=>(hch _ z).2.1 rfl
 exact I.step (ch:=ch) hch (fun b o hL hb hc e n=>u.keep b o e n (fun z=>(List.mem_cons.mp (I.stkSub b z)).elim hL hb) hc) (fun b o _ _ hc e n=>u.any e n hc) (fun b o hc e n=>u.free b o e n hc) (fun b o hc e=>u.there b o e hc) u.tups u.frzs u.tbls (fun m' hm=>by
  obtain ⟨o',es',ep',ho',r'⟩:=hm
  rw [ho] at ho'; cases ho'
  exact ⟨_,es',ep',hL,r'⟩) hok hg
theorem Inv.turned {t' : Nat} {it : Addr} (I : Inv X pins σ H s) (k : ∀ b o,b ≠ it->s.heap.get? b = some o->h'.get? b = some o) (hn : H it = none) (hL : it ≠ X.env.locals)
  (h1 : it ∈ X.ex \/ X.s₀.heap.objs.size <= it) (h2 : ∀ x c,X.env.cells.lookup x = some c->c ≠ it) (h3 : ∀ p ∈ X.pn++pins,p.1 ≠ it) : Inv X pins σ H { s with heap:=h',toks:=t' }:=by
 have nit : ∀ b u,H b = some u->b ≠ it:=fun b u e z=>by rw [z,hn] at e; cases e
 refine I.step (g':=s.gens) (d':=s.drawn) (ch:=[it]) (fun b hb=>?_) (fun b o _ _ hc e _=>k b o (fun z=>hc (by simp [z])) e) (fun b o _ _ hc e _=>⟨o.slots,k b o (fun z=>hc (by simp [z])) e⟩) (fun _ _ _ _ n=>n)
  (fun b o hc e=>⟨o,k b o (fun z=>hc (by simp [z])) e⟩) (fun _ _ e=>e) (fun _ _ _ e=>e) (fun b ps e=>⟨#[],by rw [e]; simp⟩) (fun m hm=>?_) (fun b u e=>?_) I.bare
 ·have e : b = it:=by simpa using hb
  subst e
  exact ⟨h1,hL,h2,h3⟩
 ·obtain ⟨o,es,ep,ho,r⟩:=hm
  exact ⟨o,es,ep,k _ o (Ne.symm hL) ho,r⟩
 ·refine (I.hok b u e).stay (fun c v hc q=>k c v ?_ q) (fun _ q=>q) fun _ _ q=>q
  rcases hc with z | z
  ·rw [z]; exact nit b u e
  ·exact nit c _ z
theorem Inv.tok (I : Inv X pins σ H s) (t : Nat) : Inv X pins σ H { s with toks:=t }:=I.un (h':=s.heap) (t':=t) Un.refl I.hok
theorem Inv.kept {t' : Nat} (I : Inv X pins σ H s) (k : ∀ b u,s.heap.get? b = some u->h'.get? b = some u) : Inv X pins σ H { s with heap:=h',toks:=t' }:=I.un (Un.kept k) (I.hok.kept k)
theorem Inv.laid {a : Addr} {o : HO} {t' : Nat} (I : Inv X pins σ H s) (k : ∀ b u,s.heap.get? b = some u->h'.get? b = some u) (hp : s.heap.objs.size <= a) (new : ObjOk X.prog X.w (upd H a o) h' a o) :
  Inv X pins σ (upd H a o) { s with heap:=h',toks:=t' }:=I.un (Un.laid k hp (I.hok.fresh hp)) (I.hok.laid k hp new)
theorem Inv.write {x e : Addr} {o : HO} {t' : Nat} (I : Inv X pins σ H s) (mu : Mut (H x)) (he : e = x \/ H e = some (.own x)) (k : ∀ b u,b ≠ e->s.heap.get? b = some u->h'.get? b = some u) (heo : ∃ u,h'.get? e = some u)
  (new : ObjOk X.prog X.w (upd H x o) h' x o) : Inv X pins σ (upd H x o) { s with heap:=h',toks:=t' }:=I.un (Un.write mu he k heo) (I.hok.write mu he k heo new)
theorem Inv.weak {σ' : List (Option V)} (I : Inv X pins σ H s) (hl : σ'.length = σ.length) (w : ∀ (i : Nat) v,σ'[i]? = some (some v)->σ[i]? = some (some v)) : Inv X pins σ' H s:=
 ⟨I.ok,I.os,I.bare,I.base,let ⟨m,hn,hl'⟩:=I.loc; ⟨m,hn,fun i x v e1 e2 e3=>hl' i x v e1 (w i v e2) e3⟩,I.cell,I.free,I.freeC,I.pin,I.hok,hl.trans I.len⟩
theorem Inv.pins_of {pins' : List (Addr × Obj)} (I : Inv X pins σ H s) (h : ∀ p ∈ pins',s.heap.get? p.1 = some p.2 /\ H p.1 = none /\ p.1 ≠ X.env.locals /\ p.1 ∉ X.fs /\ ∀ v,p.2.data ≠ .cell v) : Inv X pins' σ H s:=
 ⟨I.ok,I.os,I.bare,I.base,I.loc,I.cell,I.free,I.freeC,fun p hp=>(List.mem_append.mp hp).elim (fun z=>I.pin p (List.mem_append_left _ z)) (h p),I.hok,I.len⟩
theorem nodup_ix {N : List Str} (hN : N.Nodup) {i j : Nat} {x : Str} (a : N[i]? = some x) (b : N[j]? = some x) : i = j:=by
 obtain ⟨h1,e1⟩:=List.getElem?_eq_some_iff.mp a
 obtain ⟨h2,e2⟩:=List.getElem?_eq_some_iff.mp b
 exact (List.getElem_inj hN).mp (e1.trans e2.symm)
theorem store_ok2 {M : Model} {A : Around} {E : Value->Shared->Prop} {i : Nat} {x : Str} {v : V} {u : Value} {Q : Unit->Shared->Prop} (I : Inv X pins σ H s) (hN : X.N.Nodup) (hi : X.N[i]? = some x) (hx : Loc X.env.scope x) (r : RelV v u)
  (h : ∀ s',Inv X pins (σ.set i (some v)) H s'->(∃ a,Heap.SameBut a s.heap s'.heap /\ (a = X.env.locals \/ X.env.cells.lookup x = some a))->Q () s') (hf : X.fn x = true \/ X.env.scope.names.lookup x = some .local:=by first | exact .inl rfl | exact .inr rfl | assumption) : wpAny M A (storeName X.env x u) Q E s:=by
 obtain ⟨m,hn,hl⟩:=id I.loc
 have hcls : (X.env.scope.kind == .class || (X.env.scope.kind == .module && X.env.locals != X.env.globals)) = false:=by rw [I.ok.kind]; rfl
 have hiσ : i < σ.length:=by rw [I.len]; exact (List.getElem?_eq_some_iff.mp hi).1
 have cne:=I.cne
 have tracked : ∀ {a : Addr} {h' : Heap},(∃ o,s.heap.get? a = some o /\ H a = none)->Heap.SameBut a s.heap h'->HOk X.prog X.w H h':=fun {a h'} ha hs b ob e=>by
  obtain ⟨_,_,hfree⟩:=ha
  refine (I.hok b ob e).stay (fun c w' hc q=>(hs.2 c ?_).trans q) (fun _ q=>q) fun _ _ q=>q
  rintro rfl
  rcases hc with rfl | hc
  ·rw [hfree] at e; cases e
  ·rw [hfree] at hc; cases hc
 rcases hx with hk | hk
 ·refine wpAny_storeName_local hk hn (fun h' hn' hs=>?_) hcls
  obtain ⟨oL,_,_,hoL,_⟩:=id hn
  refine h _ ⟨I.ok,I.os,I.bare,⟨fun b o e n hb hx=>?_,fun b o e n hb hx=>?_,I.base.free,fun b o e hx=>?_,I.base.tups,I.base.frzs,I.base.tbls⟩,⟨_,hn',fun j y v' e1 e2 e3=>?_⟩,fun y c e=>?_,I.free,I.freeC,fun p hp=>?_,tracked ⟨oL,hoL,I.free⟩ hs,by simpa using I.len⟩ ⟨_,hs,.inl rfl⟩
  ·exact (hs.2 b (Nat.ne_of_lt (Nat.lt_of_lt_of_le (Heap.lt_size e) I.ok.above))).trans (I.base.keep b o e n hb hx)
  ·obtain ⟨sl,e1⟩:=I.base.slot b o e n hb hx
   exact ⟨sl,(hs.2 b (Nat.ne_of_lt (Nat.lt_of_lt_of_le (Heap.lt_size e) I.ok.above))).trans e1⟩
  ·obtain ⟨o',e1⟩:=I.base.there b o e hx
   exact ⟨o',(hs.2 b (Nat.ne_of_lt (Nat.lt_of_lt_of_le (Heap.lt_size e) I.ok.above))).trans e1⟩
  ·by_cases hj : j = i
   ·subst hj
    rw [hi] at e1; cases e1
    rw [List.getElem?_set_self hiσ] at e2
    cases e2
    exact ⟨u,r,.inl ⟨hk,by simp⟩⟩
   ·rw [List.getElem?_set_ne (Ne.symm hj)] at e2
    obtain ⟨u',r',q⟩:=hl j y v' e1 e2 e3
    refine ⟨u',r',?_⟩
    rcases q with ⟨k,e⟩ | ⟨k,c,e,z⟩
    ·refine .inl ⟨k,?_⟩
     have : y ≠ x:=fun e=>hj (nodup_ix hN e1 (e ▸ hi))
     simp [this,e]
    ·exact .inr ⟨k,c,e,z.sameBut hs (cne y c e)⟩
  ·obtain ⟨w',z⟩:=I.cell y c e
   exact ⟨w',z.sameBut hs (cne y c e)⟩
  ·obtain ⟨e,n,ne,nf,d⟩:=I.pin p hp
   exact ⟨(hs.2 p.1 ne).trans e,n,ne,nf,d⟩
 ·have hfn : X.fn x = true:=by
   rcases hf with z | z
   ·exact z
   ·rw [z] at hk; cases hk
  obtain ⟨c,hc⟩:=I.ok.has x (.inl hk)
  obtain ⟨w',z⟩:=I.cell x c hc
  refine wpAny_storeName_cell I.ok.kind hk hc z (fun h' hc' hs=>?_)
  obtain ⟨oc,hoc,hocd⟩:=id z
  refine h { s with heap:=h' } ⟨I.ok,I.os,I.bare,⟨fun b o e n hb hx=>?_,fun b o e n hb hx=>?_,I.base.free,fun b o e hx=>?_,I.base.tups,I.base.frzs,I.base.tbls⟩,⟨m,hn.sameBut hs (Ne.symm (cne x c hc)),fun j y v' e1 e2 e3=>?_⟩,fun y c' e=>?_,I.free,I.freeC,fun p hp=>?_,tracked ⟨oc,hoc,I.freeC x c hc⟩ hs,by simpa using I.len⟩ ⟨c,hs,.inr hc⟩
  ·exact (hs.2 b (Nat.ne_of_lt (Nat.lt_of_lt_of_le (Heap.lt_size e) (I.ok.cab x c hfn hc)))).trans (I.base.keep b o e n hb hx)
  ·obtain ⟨sl,e1⟩:=I.base.slot b o e n hb hx
   exact ⟨sl,(hs.2 b (Nat.ne_of_lt (Nat.lt_of_lt_of_le (Heap.lt_size e) (I.ok.cab x c hfn hc)))).trans e1⟩
  ·obtain ⟨o',e1⟩:=I.base.there b o e hx
   exact ⟨o',(hs.2 b (Nat.ne_of_lt (Nat.lt_of_lt_of_le (Heap.lt_size e) (I.ok.cab x c hfn hc)))).trans e1⟩
  ·by_cases hj : j = i
   ·subst hj
    rw [hi] at e1; cases e1
    rw [List.getElem?_set_self hiσ] at e2
    cases e2
    exact ⟨u,r,.inr ⟨.inl hk,c,hc,hc'⟩⟩
   ·rw [List.getElem?_set_ne (Ne.symm hj)] at e2
    obtain ⟨u',r',q⟩:=hl j y v' e1 e2 e3
    refine ⟨u',r',?_⟩
    rcases q with q | ⟨k,c',e,z'⟩
    ·exact .inl q
    ·refine .inr ⟨k,c',e,z'.sameBut hs ?_⟩
     rintro rfl
     exact hj (nodup_ix hN e1 (I.ok.inj _ _ _ e hc ▸ hi))
  ·by_cases hcc : c' = c
   ·subst hcc; exact ⟨_,hc'⟩
   ·obtain ⟨w2,z2⟩:=I.cell y c' e
    exact ⟨w2,z2.sameBut hs hcc⟩
  ·obtain ⟨e,n,ne,nf,d⟩:=I.pin p hp
   refine ⟨(hs.2 p.1 ?_).trans e,n,ne,nf,d⟩
   intro q
   rw [q,hoc] at e
   have q' : oc = p.2:=Option.some.inj e
   exact d w' (by rw [<- q']; exact hocd)
theorem store_ok {M : Model} {A : Around} {E : Value->Shared->Prop} {i : Nat} {x : Str} {v : V} {u : Value} {Q : Unit->Shared->Prop} (I : Inv X pins σ H s) (hN : X.N.Nodup) (hi : X.N[i]? = some x) (hx : Loc X.env.scope x) (r : RelV v u)
  (h : ∀ s',Inv X pins (σ.set i (some v)) H s'->Q () s') (hf : X.fn x = true \/ X.env.scope.names.lookup x = some .local:=by first | exact .inl rfl | exact .inr rfl | assumption) : wpAny M A (storeName X.env x u) Q E s:=
 store_ok2 I hN hi hx r (fun s' I' _=>h s' I') hf
theorem Inv.call' {s' : Shared} {ch : List Addr} (I : Inv X pins σ H s) (ho : s'.os = s.os) (u : Un (frs X.stack) ch H H' s.heap s'.heap) (hok : HOk X.prog X.w H' s'.heap) (hg : AllBare s'.gens)
  (hch : ∀ b ∈ ch,(b ∈ X.ex \/ X.s₀.heap.objs.size <= b) /\ b ≠ X.env.locals /\ (∀ x c,X.env.cells.lookup x = some c->c ≠ b) /\ ∀ p ∈ X.pn++pins,p.1 ≠ b) : Inv X pins σ H' s':=by
 obtain ⟨h',g',d',t',o'⟩:=s'
 have e : o' = s.os:=ho
 subst e
 exact I.call (g':=g') (t':=t') (d':=d') u hok hg hch
end
abbrev XK:=Value->Option Addr->Hp->Prop
abbrev St:=List (Option V)
abbrev VK:=V->Hp->Prop
abbrev TE:=St->Hp->VK->Prop
abbrev TT:=St->Hp->(Bool->Hp->Prop)->Prop
abbrev TA:=St->Hp->(List V->Hp->Prop)->Prop
structure Ends where
 nx : St->Hp->Prop
 rt : VK
 bk : St->Hp->Prop:=fun _ _=>False
 ct : St->Hp->Prop:=fun _ _=>False
abbrev TS:=Ends->St->Hp->Prop
def EP (X : Cx) (pins : List (Addr × Obj)) (σ : St) (Q : VK) (u : Value) (s' : Shared) : Prop:=∃ v H',Inv X pins σ H' s' /\ RelV v u /\ Q v H'
def TP (X : Cx) (pins : List (Addr × Obj)) (σ : St) (Q : Bool->Hp->Prop) (b : Bool) (s' : Shared) : Prop:=∃ H',Inv X pins σ H' s' /\ Q b H'
def AP (X : Cx) (pins : List (Addr × Obj)) (σ : St) (Q : List V->Hp->Prop) (us : List Value) (s' : Shared) : Prop:=∃ vs H',Inv X pins σ H' s' /\ Vals vs us /\ Q vs H'
def SP (X : Cx) (pins : List (Addr × Obj)) (D : Ends) (f : Flow) (s' : Shared) : Prop:=
 match f with
 | .next=>∃ σ' H',Inv X pins σ' H' s' /\ D.nx σ' H'
 | .brk=>∃ σ' H',Inv X pins σ' H' s' /\ D.bk σ' H'
 | .cont=>∃ σ' H',Inv X pins σ' H' s' /\ D.ct σ' H'
 | .ret u=>∃ v σ' H',Inv X pins σ' H' s' /\ RelV v u /\ D.rt v H'
def PE (X : Cx) (e : Expr) (t : TE) : Prop:=
 ∀ (pins : List (Addr × Obj)) (s : Shared) (σ : St) (H : Hp) (Q : VK),Inv X pins σ H s->t σ H Q->wpAny (model X.prog X.w) X.A (eval e X.env) (EP X pins σ Q) X.xe s
def PT (X : Cx) (e : Expr) (t : TT) : Prop:=
 ∀ (pins : List (Addr × Obj)) (s : Shared) (σ : St) (H : Hp) (Q : Bool->Hp->Prop),Inv X pins σ H s->t σ H Q->wpAny (model X.prog X.w) X.A (isTrue e X.env (eval e X.env)) (TP X pins σ Q) X.xe s
def PW (X : Cx) (e : Expr) (t : TT) : Prop:=
 ∀ (whole : Sem Value) (pins : List (Addr × Obj)) (s : Shared) (σ : St) (H : Hp) (Q : Bool->Hp->Prop),Inv X pins σ H s->t σ H Q->wpAny (model X.prog X.w) X.A (isTrue e X.env whole) (TP X pins σ Q) X.xe s
theorem PW.pt {X : Cx} {e : Expr} {t : TT} (h : PW X e t) : PT X e t:=h _
def PA (X : Cx) (es : List Expr) (t : TA) : Prop:=
 ∀ (pos : Pos) (pins : List (Addr × Obj)) (s : Shared) (σ : St) (H : Hp) (Q : List V->Hp->Prop),Inv X pins σ H s->t σ H Q->wpAny (model X.prog X.w) X.A (spliced (backTo pos (starEach es X.env))) (AP X pins σ Q) X.xe s
def PS (X : Cx) (st : Stmt) (t : TS) : Prop:=
 ∀ (pins : List (Addr × Obj)) (s : Shared) (σ : St) (H : Hp) (D : Ends),Inv X pins σ H s->t D σ H->wpAny (model X.prog X.w) X.A (exec st X.env) (SP X pins D) X.xe s
def PSs (X : Cx) (st : List Stmt) (t : TS) : Prop:=
 ∀ (pins : List (Addr × Obj)) (s : Shared) (σ : St) (H : Hp) (D : Ends),Inv X pins σ H s->t D σ H->wpAny (model X.prog X.w) X.A (execs st X.env) (SP X pins D) X.xe s
theorem thn {α : Type} {t : Sem α} {Q Q' : α->Shared->Prop} {M : Model} {A : Around} {E : Value->Shared->Prop} {s : Shared} (h : wpAny M A t Q E s) (hQ : ∀ a s,Q a s->Q' a s) : wpAny M A t Q' E s:=wpAny_mono h hQ fun _ _ x=>x
section
variable {X : Cx}
theorem bin {a b : Expr} {ta tb : TE} (ha : PE X a ta) (hb : PE X b tb) {pins : List (Addr × Obj)} {s : Shared} {σ : St} {H : Hp} {R : V->V->Hp->Prop} (I : Inv X pins σ H s) (h : ta σ H fun x H1=>tb σ H1 fun y H2=>R x y H2)
  {α : Type} {Q : α->Shared->Prop} {f : Value->Value->Sem α}
  (hf : ∀ v u s2 x y H2,Inv X pins σ H2 s2->RelV x v->RelV y u->R x y H2->wpAny (model X.prog X.w) X.A (f v u) Q X.xe s2) :
  wpAny (model X.prog X.w) X.A (eval a X.env) (fun v s₁=>wpAny (model X.prog X.w) X.A (eval b X.env) (fun u s₂=>wpAny (model X.prog X.w) X.A (f v u) Q X.xe s₂) X.xe s₁) X.xe s:=by
 refine thn (ha pins s σ H _ I h) fun v s1 ⟨x,H1,I1,r1,q1⟩=>?_
 refine thn (hb pins s1 σ H1 _ I1 q1) fun u s2 ⟨y,H2,I2,r2,q2⟩=>?_
 exact hf v u s2 x y H2 I2 r1 r2 q2
def tVar (i : Nat) : TE:=fun σ H Q=>∃ v,σ[i]? = some (some v) /\ Q v H
def tC (v : V) : TE:=fun _ H Q=>Q v H
theorem pe_var {i : Nat} {x : Str} {pos : Pos} (hN : X.N[i]? = some x) (hv : Vis X.env.scope x) (hd : (x == ("__debug__" : Str)) = false:=by decide) (hcd : (x == ("__classdict__" : Str)) = false:=by decide) : PE X (.Name x pos) (tVar i):=by
 intro pins s σ H Q I h
 obtain ⟨v,e,h⟩:=h
 obtain ⟨m,hn,hl⟩:=I.loc
 obtain ⟨u,r,l⟩:=hl i x v hN e hv
 have fin : EP X pins σ Q u s:=⟨v,H,I,r,h⟩
 rcases l with ⟨hk,hm⟩ | ⟨hk,c,hc,hcell⟩
 ·exact wpAny_Name (wpAny_loadName_local I.ok.kind hk hn hm fin) hd
 ·rcases hk with hk | hk
  ·exact wpAny_Name (wpAny_loadName_cell I.ok.kind hk hc hcell fin) hd
  ·exact wpAny_Name (wpAny_loadName_free I.ok.kind hk hc hcell fin hcd) hd
theorem pe_int {i j pos} : PE X (.Constant (.int i) j pos) (tC (.int i)):=fun _ _ _ H _ I h=>wpAny_Constant_int ⟨.int i,H,I.tok _,⟨_,rfl⟩,h⟩
theorem pe_bl {b j pos} : PE X (.Constant (.bool b) j pos) (tC (.bl b)):=fun _ _ _ H _ I h=>Constant_bool ⟨.bl b,H,I,rfl,h⟩
theorem pe_str {x j pos} : PE X (.Constant (.str x) j pos) (tC (.str x)):=fun _ _ _ H _ I h=>Calls.Constant_str ⟨.str x,H,I.tok _,⟨_,rfl⟩,h⟩
def Gl (X : Cx) (x : Str) : Prop:=X.env.kindOf x = some .globalImplicit
theorem ld_glob {E : Value->Shared->Prop} {pins : List (Addr × Obj)} {s : Shared} {σ : St} {H : Hp} {x : Str} {u : Value} {pos : Pos} {Q : Value->Shared->Prop} (I : Inv X pins σ H s) (hg : Gl X x) (hm : X.mg x = some u) (h : Q u s)
  (hd : (x == ("__debug__" : Str)) = false:=by decide) : wpAny (model X.prog X.w) X.A (eval (.Name x pos) X.env) Q E s:=
 Calls.Name_function_global I.ok.kind hg (Calls.loadGlobal_global (by rw [I.ok.glob]; exact I.mod.glob.keeps I.bk) hm h) hd
theorem ld_blt {E : Value->Shared->Prop} {pins : List (Addr × Obj)} {s : Shared} {σ : St} {H : Hp} {x : Str} {u : Value} {pos : Pos} {Q : Value->Shared->Prop} (I : Inv X pins σ H s) (hg : Gl X x) (hm : X.mg x = none) (hv : bootBuiltins x = some u) (h : Q u s)
  (hn : x ≠ "__name__":=by decide) (hd : (x == ("__debug__" : Str)) = false:=by decide) : wpAny (model X.prog X.w) X.A (eval (.Name x pos) X.env) Q E s:=by
 obtain ⟨mb,h1,h2⟩:=I.mod.blt
 exact Calls.Name_function_global I.ok.kind hg (Calls.loadGlobal_builtin (by rw [I.ok.glob]; exact I.mod.glob.keeps I.bk) hm (by rw [I.ok.blt]; exact h1.keeps I.bk) ((h2 x hn).trans hv) h) hd
theorem pe_glob {x : Str} {v : V} {u : Value} {pos : Pos} (hg : Gl X x) (hm : X.mg x = some u) (r : RelV v u) (hd : (x == ("__debug__" : Str)) = false:=by decide) : PE X (.Name x pos) (tC v):=
 fun _ _ _ H _ I h=>ld_glob I hg hm ⟨v,H,I,r,h⟩ hd
theorem pe_bltn {x : Str} {v : V} {u : Value} {pos : Pos} (hg : Gl X x) (hm : X.mg x = none) (hv : bootBuiltins x = some u) (r : RelV v u) (hn : x ≠ "__name__":=by decide) (hd : (x == ("__debug__" : Str)) = false:=by decide) : PE X (.Name x pos) (tC v):=
 fun _ _ _ H _ I h=>ld_blt I hg hm hv ⟨v,H,I,r,h⟩ hn hd
variable {a b : Expr} {ta tb : TE} {pos : Pos}
def PC (X : Cx) (op : CmpOp) (a b : Expr) (t : TE) : Prop:=
 ∀ (pins : List (Addr × Obj)) (s : Shared) (σ : St) (H : Hp) (Q : VK),Inv X pins σ H s->t σ H Q->
  wpAny (model X.prog X.w) X.A (eval a X.env) (fun v s₁=>wpAny (model X.prog X.w) X.A (eval b X.env) (fun u s₂=>wpAny (model X.prog X.w) X.A (compareOp op v u) (EP X pins σ Q) X.xe s₂) X.xe s₁) X.xe s
theorem nobehind (b : Expr) {op : CmpOp} (h : op ≠ .In) (h2 : op ≠ .NotIn) : behindInMarks op b = false:=by
 have e1 : (op == CmpOp.In) = false:=by cases op <;> first | rfl | exact absurd rfl h
 have e2 : (op == CmpOp.NotIn) = false:=by cases op <;> first | rfl | exact absurd rfl h2
 cases b <;> simp [behindInMarks,e1,e2]
def tB (t : TE) : TT:=fun σ H Q=>t σ H fun x H1=>∃ c,x = .bl c /\ Q c H1
theorem pt_cmp {op : CmpOp} {t : TE} (h : PC X op a b t) (h1 : behindInMarks op b = false:=by first | exact nobehind _ (by decide) (by decide) | rfl) : PT X (.Compare a [op] [b] pos) (tB t):=by
 intro pins s σ H Q I hw
 refine wpAny_isTrue_Compare1 (thn (h pins s σ H _ I hw) fun v s1 h1=>thn h1 fun u s2 h2=>thn h2 fun c s3 ⟨x,H1,I1,r1,q1⟩=>?_) h1
 obtain ⟨d,rfl,q⟩:=q1
 cases r1
 exact wpAny_truthy_bool ⟨H1,I1,q⟩
theorem pt_val {e : Expr} {t : TE} (h : PE X e t) (he : ∀ whole,isTrue e X.env whole = (do let v <- whole; standAt e.pos; holding [v] (truthy v)):=by intro _; rfl) : PT X e (tB t):=by
 intro pins s σ H Q I hw
 refine isTrue_plain (thn (h pins s σ H _ I hw) fun v s1 ⟨x,H1,I1,r1,q1⟩=>?_) (he _)
 obtain ⟨d,rfl,q⟩:=q1
 cases r1
 exact wpAny_truthy_bool ⟨H1,I1,q⟩
variable {tA tB' : TT} {rest : List Expr}
def tAnd (t u : TT) : TT:=fun σ H Q=>t σ H fun c H1=>if c = true then u σ H1 Q else Q false H1
def tOr (t u : TT) : TT:=fun σ H Q=>t σ H fun c H1=>if c = true then Q true H1 else u σ H1 Q
def tNot (t : TT) : TT:=fun σ H Q=>t σ H fun c H1=>Q (!c) H1
theorem pw_and1 (ha : PT X a tA) : PW X (.BoolOp .And [a] pos) tA:=by
 intro wh pins s σ H Q I h
 refine isTrue_and (thn (ha pins s σ H Q I h) fun c s1 e=>?_)
 cases c with
 | true=>exact isTrue_and_nil e
 | false=>exact e
theorem pw_or1 (ha : PT X a tA) : PW X (.BoolOp .Or [a] pos) tA:=by
 intro wh pins s σ H Q I h
 refine isTrue_or (thn (ha pins s σ H Q I h) fun c s1 e=>?_)
 cases c with
 | false=>exact isTrue_or_nil e
 | true=>exact e
theorem pw_and (ha : PT X a tA) (hb : PW X (.BoolOp .And (b::rest) pos) tB') : PW X (.BoolOp .And (a::b::rest) pos) (tAnd tA tB'):=by
 intro wh pins s σ H Q I h
 refine isTrue_and (thn (ha pins s σ H _ I h) fun c s1 ⟨H1,I1,q1⟩=>?_)
 cases c with
 | true=>exact hb wh pins s1 σ H1 Q I1 q1
 | false=>exact ⟨H1,I1,q1⟩
theorem pw_or (ha : PT X a tA) (hb : PW X (.BoolOp .Or (b::rest) pos) tB') : PW X (.BoolOp .Or (a::b::rest) pos) (tOr tA tB'):=by
 intro wh pins s σ H Q I h
 refine isTrue_or (thn (ha pins s σ H _ I h) fun c s1 ⟨H1,I1,q1⟩=>?_)
 cases c with
 | true=>exact ⟨H1,I1,q1⟩
 | false=>exact hb wh pins s1 σ H1 Q I1 q1
theorem pt_not (ha : PT X a tA) : PT X (.UnaryOp .Not a pos) (tNot tA):=by
 intro pins s σ H Q I h
 exact isTrue_not (ha pins s σ H (fun c H1=>Q (!c) H1) I h)
def tAndV (ta tb : TE) : TE:=fun σ H Q=>ta σ H fun x H1=>∃ c,x = .bl c /\ if c = true then tb σ H1 Q else Q (.bl false) H1
def tOrV (ta tb : TE) : TE:=fun σ H Q=>ta σ H fun x H1=>∃ c,x = .bl c /\ if c = true then Q (.bl true) H1 else tb σ H1 Q
def tNotV (ta : TE) : TE:=fun σ H Q=>ta σ H fun x H1=>∃ c,x = .bl c /\ Q (.bl (!c)) H1
theorem pe_one {op} {t : TE} (h : PE X a t) : PE X (.BoolOp op [a] pos) t:=fun pins s σ H Q I hw=>BoolOp_one (h pins s σ H Q I hw)
theorem pe_and (ha : PE X a ta) (hb : PE X (.BoolOp .And (b::rest) pos) tb) : PE X (.BoolOp .And (a::b::rest) pos) (tAndV ta tb):=by
 intro pins s σ H Q I h
 refine BoolOp_and (thn (ha pins s σ H _ I h) fun v s1 ⟨x,H1,I1,r1,q1⟩=>?_)
 obtain ⟨c,rfl,q1⟩:=q1
 cases r1
 refine wpAny_truthy_bool ?_
 cases c with
 | true=>exact hb pins s1 σ H1 Q I1 q1
 | false=>exact ⟨.bl false,H1,I1,rfl,q1⟩
theorem pe_or (ha : PE X a ta) (hb : PE X (.BoolOp .Or (b::rest) pos) tb) : PE X (.BoolOp .Or (a::b::rest) pos) (tOrV ta tb):=by
 intro pins s σ H Q I h
 refine BoolOp_or (thn (ha pins s σ H _ I h) fun v s1 ⟨x,H1,I1,r1,q1⟩=>?_)
 obtain ⟨c,rfl,q1⟩:=q1
 cases r1
 refine wpAny_truthy_bool ?_
 cases c with
 | false=>exact hb pins s1 σ H1 Q I1 q1
 | true=>exact ⟨.bl true,H1,I1,rfl,q1⟩
theorem pe_not (ha : PE X a ta) : PE X (.UnaryOp .Not a pos) (tNotV ta):=by
 intro pins s σ H Q I h
 refine UnaryOp_ (thn (ha pins s σ H _ I h) fun v s1 ⟨x,H1,I1,r1,q1⟩=>?_)
 obtain ⟨c,rfl,q1⟩:=q1
 cases r1
 exact not_of (wpAny_truthy_bool ⟨.bl (!c),H1,I1,rfl,q1⟩)
def tIf (t : TT) (ta tb : TE) : TE:=fun σ H Q=>t σ H fun c H1=>if c = true then ta σ H1 Q else tb σ H1 Q
theorem pe_ifExp {c : Expr} (hc : PT X c tA) (ha : PE X a ta) (hb : PE X b tb) : PE X (.IfExp c a b pos) (tIf tA ta tb):=by
 intro pins s σ H Q I h
 refine wpAny_IfExp (thn (hc pins s σ H _ I h) fun d s1 ⟨H1,I1,q1⟩=>?_)
 cases d with
 | true=>exact ha pins s1 σ H1 Q I1 q1
 | false=>exact hb pins s1 σ H1 Q I1 q1
end
def SqL (K : PySem.W.Frag) (H : Hp) (a : Addr) (xs : List V) : Prop:=
 Rd H a (.lst xs) \/
  ∃ (o : Obj) (its : Array Value) (n : Nat),K.lookup a = some o /\ o.cls = .type "list" /\ o.dict = none /\ o.data = .seq its n /\ its.size <= sizeLine /\ Vals xs its.toList
def SqT (K : PySem.W.Frag) (H : Hp) (a : Addr) (xs : List V) : Prop:=
 Rd H a (.tup xs) \/
  ∃ (o : Obj) (its : Array Value) (n : Nat),K.lookup a = some o /\ o.cls = .type "tuple" /\ o.data = .seq its n /\ its.size <= sizeLine /\ Vals xs its.toList
def absV : Value->Option V
 | .none=>some .non
 | .bool b=>some (.bl b)
 | .int i _=>some (.int i)
 | .str x _=>some (.str x)
 | .bytes b _=>some (.byt b)
 | .float b _=>some (.flt b)
 | .ref a=>some (.ref a)
 | .type n=>some (.ty n)
 | _=>none
theorem RelV.abs {x : V} {u : Value} (r : RelV x u) : absV u = some x:=by
 cases x with
 | non=>cases r; rfl
 | bl _=>cases r; rfl
 | int _=>obtain ⟨t,rfl⟩:=r; rfl
 | str _=>obtain ⟨t,rfl⟩:=r; rfl
 | byt _=>obtain ⟨t,rfl⟩:=r; rfl
 | flt _=>obtain ⟨t,rfl⟩:=r; rfl
 | ref _=>cases r; rfl
 | ty _=>cases r; rfl
theorem RelV.inj {x y : V} {u : Value} (r : RelV x u) (q : RelV y u) : x = y:=Option.some.inj (r.abs.symm.trans q.abs)
theorem Vals.inj : ∀ {xs ys : List V} {us : List Value},Vals xs us->Vals ys us->xs = ys
 | _,_,_,.nil,.nil=>rfl
 | _,_,_,.cons r t,.cons r' t'=>by rw [r.inj r',Vals.inj t t']
section
variable {X : Cx} {pins : List (Addr × Obj)} {σ : St} {H : Hp} {s : Shared} {a : Addr} {xs ys : List V}
theorem SqL.of {K : PySem.W.Frag} (h : H a = some (.lst xs)) : SqL K H a xs:=.inl (.inl h)
theorem SqT.of {K : PySem.W.Frag} (h : H a = some (.tup xs)) : SqT K H a xs:=.inl (.inl h)
theorem Inv.list (I : Inv X pins σ H s) (h : SqL X.K H a xs) : ∃ its : List Value,Vals xs its /\ PlainL s.heap a its.toArray /\ xs.length <= sizeLine:=by
 rcases h with h | ⟨o,its,n,hk,hc,hd,hs,hz,r⟩
 ·obtain ⟨z,its,n,r,e⟩:=h.ok I.hok
  exact ⟨its,r,⟨_,n,e,rfl,rfl,rfl⟩,z⟩
 ·refine ⟨its.toList,r,⟨o,n,I.kIn a o hk,hc,hd,by simpa using hs⟩,?_⟩
  have e:=r.length
  simp only [Array.length_toList] at e
  omega
theorem Inv.tuple (I : Inv X pins σ H s) (h : SqT X.K H a xs) : ∃ its : List Value,Vals xs its /\ IsTup s.heap a its.toArray /\ xs.length <= sizeLine:=by
 rcases h with h | ⟨o,its,n,hk,hc,hs,hz,r⟩
 ·obtain ⟨z,its,r,p⟩:=h.ok I.hok
  exact ⟨its,r,p,z⟩
 ·refine ⟨its.toList,r,⟨o,I.kIn a o hk,hc,n,by simpa using hs⟩,?_⟩
  have e:=r.length
  simp only [Array.length_toList] at e
  omega
theorem Inv.list_inj (I : Inv X pins σ H s) (h : SqL X.K H a xs) (h' : SqL X.K H a ys) : xs = ys:=by
 obtain ⟨its,r,⟨o,n,e,_,_,d⟩,_⟩:=I.list h
 obtain ⟨its',r',⟨o',n',e',_,_,d'⟩,_⟩:=I.list h'
 rw [e] at e'; cases e'
 rw [d] at d'
 injection d' with d1 _
 have : its = its':=by simpa using congrArg Array.toList d1
 subst this
 exact r.inj r'
theorem Inv.tuple_inj (I : Inv X pins σ H s) (h : SqT X.K H a xs) (h' : SqT X.K H a ys) : xs = ys:=by
 obtain ⟨its,r,⟨o,e,_,n,d⟩,_⟩:=I.tuple h
 obtain ⟨its',r',⟨o',e',_,n',d'⟩,_⟩:=I.tuple h'
 rw [e] at e'; cases e'
 rw [d] at d'
 injection d' with d1 _
 have : its = its':=by simpa using congrArg Array.toList d1
 subst this
 exact r.inj r'
end
abbrev Cx.wish (X : Cx) (E : Value->Shared->Prop) : Cx:={ X with xe:=E }
abbrev Cx.nox (X : Cx) : Cx:=X.wish fun _ _=>False
theorem Cx.Ok.wish {X : Cx} (ok : X.Ok) (E : Value->Shared->Prop) : (X.wish E).Ok:=
 ⟨ok.mod,ok.kind,ok.glob,ok.blt,ok.above,ok.inj,ok.has,ok.cab,ok.hd,ok.frames,ok.stk,ok.exf,ok.bs,ok.bsz,ok.noex,ok.exfs,ok.funs,ok.frf⟩
theorem Cx.Ok.unwish {X : Cx} {E : Value->Shared->Prop} (ok : (X.wish E).Ok) : X.Ok:=
 ⟨ok.mod,ok.kind,ok.glob,ok.blt,ok.above,ok.inj,ok.has,ok.cab,ok.hd,ok.frames,ok.stk,ok.exf,ok.bs,ok.bsz,ok.noex,ok.exfs,ok.funs,ok.frf⟩
section
variable {X : Cx} {pins : List (Addr × Obj)} {σ : St} {H : Hp} {s : Shared} {E : Value->Shared->Prop}
theorem Inv.wish (I : Inv X pins σ H s) (E : Value->Shared->Prop) : Inv (X.wish E) pins σ H s:=⟨I.ok.wish E,I.os,I.bare,I.base,I.loc,I.cell,I.free,I.freeC,I.pin,I.hok,I.len⟩
theorem Inv.unwish (I : Inv (X.wish E) pins σ H s) : Inv X pins σ H s:=⟨I.ok.unwish,I.os,I.bare,I.base,I.loc,I.cell,I.free,I.freeC,I.pin,I.hok,I.len⟩
theorem SP.unwish {D : Ends} {f : Flow} {s' : Shared} (h : SP (X.wish E) pins D f s') : SP X pins D f s':=by
 cases f with
 | next=>obtain ⟨σ',H',I,q⟩:=h; exact ⟨σ',H',I.unwish,q⟩
 | brk=>obtain ⟨σ',H',I,q⟩:=h; exact ⟨σ',H',I.unwish,q⟩
 | cont=>obtain ⟨σ',H',I,q⟩:=h; exact ⟨σ',H',I.unwish,q⟩
 | ret u=>obtain ⟨v,σ',H',I,r,q⟩:=h; exact ⟨v,σ',H',I.unwish,r,q⟩
theorem PSs.nox {st : List Stmt} {t : TS} (h : PSs X.nox st t) : PSs X st t:=fun pins s σ H D I hw=>
 wpAny_mono (h pins s σ H D (I.wish _) hw) (fun _ _ q=>q.unwish) fun _ _ z=>False.elim z
end
section
variable {X : Cx} {st : Stmt} {rest : List Stmt} {t u : TS} {e : Expr} {te : TE} {pos : Pos}
def tNext : TS:=fun D σ H=>D.nx σ H
def tSeq (t u : TS) : TS:=fun D σ H=>t { D with nx:=u D } σ H
theorem pss_nil : PSs X [] tNext:=fun _ _ σ H _ I h=>wpAny_execs_nil ⟨σ,H,I,h⟩
theorem pss_cons (h1 : PS X st t) (h2 : PSs X rest u) : PSs X (st::rest) (tSeq t u):=by
 intro pins s σ H D I h
 refine wpAny_execs_cons (thn (h1 pins s σ H { D with nx:=u D } I h) fun f s1 q=>?_)
 cases f with
 | next=>
  obtain ⟨σ',H',I',q⟩:=q
  exact h2 pins s1 σ' H' D I' q
 | ret v=>exact q
 | brk=>exact q
 | cont=>exact q
theorem Inv.quiet {pins : List (Addr × Obj)} {σ : St} {H : Hp} {s : Shared} (I : Inv X pins σ H s) : interactive X.env = false:=by simp [interactive,I.ok.kind]
def tDrop (te : TE) : TS:=fun D σ H=>te σ H fun _ H1=>D.nx σ H1
theorem ps_expr (he : PE X e te) (hs : swapsWith e none pos.line X.env = pure false:=by rfl) : PS X (.Expr e pos) (tDrop te):=by
 intro pins s σ H D I h
 exact wpAny_Expr_any (thn (he pins s σ H _ I h) fun v s1 ⟨x,H1,I1,r1,q1⟩=>⟨σ,H1,I1,q1⟩) I.quiet hs
def tRet (te : TE) : TS:=fun D σ H=>te σ H D.rt
theorem ps_ret (he : PE X e te) : PS X (.Return (some e) pos) (tRet te):=by
 intro pins s σ H D I h
 exact wpAny_Return_some (thn (he pins s σ H _ I h) fun v s1 ⟨x,H1,I1,r1,q1⟩=>⟨x,σ,H1,I1,r1,q1⟩)
def tIfS (c : TT) (t u : TS) : TS:=fun D σ H=>c σ H fun b H1=>if b = true then t D σ H1 else u D σ H1
theorem ps_if {c : Expr} {a b : List Stmt} {tc : TT} (hc : PT X c tc) (ha : PSs X a t) (hb : PSs X b u) : PS X (.If c a b pos) (tIfS tc t u):=by
 intro pins s σ H D I h
 refine wpAny_If (thn (hc pins s σ H _ I h) fun d s1 ⟨H1,I1,q1⟩=>?_)
 cases d with
 | true=>exact ha pins s1 σ H1 D I1 q1
 | false=>exact hb pins s1 σ H1 D I1 q1
end
abbrev TG:=V->St->Hp->(St->Hp->Prop)->Prop
def PG (X : Cx) (target : Expr) (t : TG) : Prop:=
 ∀ (pins : List (Addr × Obj)) (s : Shared) (σ : St) (H : Hp) (v : V) (u : Value) (Q : St->Hp->Prop),Inv X pins σ H s->RelV v u->t v σ H Q->
  wpAny (model X.prog X.w) X.A (assign target X.env u) (fun _ s'=>∃ σ' H',Inv X pins σ' H' s' /\ Q σ' H') X.xe s
section
variable {X : Cx} {pos : Pos}
def gName (i : Nat) : TG:=fun v σ H Q=>Q (σ.set i (some v)) H
theorem pg_name {i : Nat} {x : Str} (hN : X.N.Nodup) (hi : X.N[i]? = some x) (hx : Loc X.env.scope x) (hf : X.fn x = true \/ X.env.scope.names.lookup x = some .local:=by first | exact .inl rfl | exact .inr rfl | assumption) : PG X (.Name x pos) (gName i):=by
 intro pins s σ H v u Q I r h
 exact wpAny_assign_Name (store_ok I hN hi hx r (fun s' I'=>⟨_,H,I',h⟩) hf)
def tAsg (te : TE) (g : TG) : TS:=fun D σ H=>te σ H fun x H1=>g x σ H1 D.nx
theorem ps_set {i : Nat} {x : Str} {e : Expr} {te : TE} {pos' : Pos} (hN : X.N.Nodup) (hi : X.N[i]? = some x) (hx : Loc X.env.scope x) (he : PE X e te) (hs : swapsWith e (some (.Name x pos')) pos.line X.env = pure false:=by rfl) (hf : X.fn x = true \/ X.env.scope.names.lookup x = some .local:=by first | exact .inl rfl | exact .inr rfl | assumption) :
  PS X (.Assign [.Name x pos'] e pos) (tAsg te (gName i)):=by
 intro pins s σ H D I h
 refine wpAny_Assign_Name (thn (he pins s σ H _ I h) fun v s1 ⟨y,H1,I1,r1,q1⟩=>?_) hs
 exact store_ok I1 hN hi hx r1 (fun s2 I2=>⟨_,H1,I2,q1⟩) hf
end
section
variable {X : Cx} {pos : Pos}
end
structure It where
 go : Nat->Hp->Prop
 yld : Nat->Hp->V->Hp->Prop
 stop : Nat->Hp->Prop
def FpOk (X : Cx) (pins : List (Addr × Obj)) (H : Hp) (b : Addr) : Prop:=
 H b = none /\ b ≠ X.env.locals /\ b ∉ X.fs /\ (b ∈ X.ex \/ X.s₀.heap.objs.size <= b) /\ (∀ x c,X.env.cells.lookup x = some c->c ≠ b) /\ ∀ p ∈ X.pn++pins,p.1 ≠ b
theorem Inv.fpOk {X : Cx} {pins : List (Addr × Obj)} {σ : St} {H H' : Hp} {s : Shared} {b : Addr} (I : Inv X pins σ H s) (hb : s.heap.objs.size <= b) (hn : H' b = none) : FpOk X pins H' b:=by
 refine ⟨hn,Nat.ne_of_gt (Nat.lt_of_lt_of_le I.lt hb),I.nofs hb,.inr (Nat.le_trans I.sz hb),fun x c e z=>?_,fun p hp z=>?_⟩
 ·obtain ⟨v,q⟩:=I.cell x c e
  exact absurd (Nat.lt_of_lt_of_le q.lt (by rw [z]; exact hb)) (Nat.lt_irrefl _)
 ·exact absurd (Nat.lt_of_lt_of_le (Heap.lt_size (I.pin p hp).1) (by rw [z]; exact hb)) (Nat.lt_irrefl _)
structure Turn (P : Program) (w : World) (K : PySem.W.Frag) (tg : Expr) (J : It) (fp : List Addr) (it : Addr) (tn : Nat->Heap->Prop) : Prop where
 mem : it ∈ fp
 obj : ∀ i h,tn i h->∀ b ∈ fp,∃ o,h.get? b = some o /\ ∀ v,o.data ≠ .cell v
 keep : ∀ i h h',tn i h->(∀ b ∈ fp,∀ o,h.get? b = some o->h'.get? b = some o)->tn i h'
 item : ∀ (X : Cx),X.prog = P->X.w = w->X.K = K->X.calm = true->∀ (i : Nat) (pins : List (Addr × Obj)) (s : Shared) (σ : St) (H : Hp) (E : Value->Shared->Prop),Inv X pins σ H s->(∀ b ∈ fp,FpOk X pins H b)->tn i s.heap->J.go i H->
  wpAny (model P w) X.A (pyNext (.ref it)) (fun r s1=>∃ u,r = some u /\
   wpAny (model P w) X.A (letOwnedTupleGo tg (.ref it) u) (fun _ s2=>∃ x H',Inv X pins σ H' s2 /\ RelV x u /\ J.yld i H x H' /\ tn (i + 1) s2.heap /\ ∀ b ∈ fp,H' b = none) E s1) E s
 done : ∀ (X : Cx),X.prog = P->X.w = w->X.K = K->X.calm = true->∀ (i : Nat) (pins : List (Addr × Obj)) (s : Shared) (σ : St) (H : Hp) (E : Value->Shared->Prop),Inv X pins σ H s->(∀ b ∈ fp,FpOk X pins H b)->tn i s.heap->J.stop i H->
  wpAny (model P w) X.A (pyNext (.ref it)) (fun r s1=>r = none /\ Inv X pins σ H s1) E s
 self : ∀ (A : Around) (i : Nat) (s : Shared) (Q : Value->Shared->Prop) (E : Value->Shared->Prop),tn i s.heap->Q (.ref it) s->wpAny (model P w) A (pyIter (.ref it)) Q E s
abbrev TI:=St->Hp->(It->Hp->Prop)->Prop
def PIE (X : Cx) (pins : List (Addr × Obj)) (σ : St) (tg : Expr) (R : It->Hp->Prop) (itv : Value) (s2 : Shared) : Prop:=
 ∃ (it : Addr) (fp : List Addr) (tn : Nat->Heap->Prop) (J : It) (H' : Hp),itv = .ref it /\ Inv X pins σ H' s2 /\ Turn X.prog X.w X.K tg J fp it tn /\ tn 0 s2.heap /\ (∀ b ∈ fp,FpOk X pins H' b) /\ R J H'
def PI (X : Cx) (tg iter : Expr) (wi : TI) : Prop:=
 ∀ (pins : List (Addr × Obj)) (s : Shared) (σ : St) (H : Hp) (R : It->Hp->Prop),Inv X pins σ H s->wi σ H R->
  wpAny (model X.prog X.w) X.A (eval iter X.env) (fun v s1=>wpAny (model X.prog X.w) X.A (pyIter v) (PIE X pins σ tg R) X.xe s1) X.xe s
theorem go_of {M : Model} {A : Around} {E : Value->Shared->Prop} {s : Shared} {tg : Expr} {it : Addr} {u : Value} {o : Obj} {n : String} {vs : Array Value} {Q : Unit->Shared->Prop} (ho : s.heap.get? it = some o) (hc : o.cls = .type n) (hd : o.data = .fields vs)
  (hn : ["enumerate","zip","dict_itemiterator","dict_reverseitemiterator","odict_iterator","itertools.zip_longest","itertools.pairwise"].contains n = false) (hQ : Q () s) : wpAny M A (letOwnedTupleGo tg (.ref it) u) Q E s:=by
 unfold letOwnedTupleGo
 cases tg <;> first
  | exact wpAny_pure hQ
  | (cases u <;> first
    | exact wpAny_pure hQ
    | (refine wpAny_bind (wpAny_load ho ?_)
       rw [hc,hd]
       show wpAny M A (if (["enumerate","zip","dict_itemiterator","dict_reverseitemiterator","odict_iterator","itertools.zip_longest","itertools.pairwise"].contains n && vs[0]? == some (rawInt _)) = true then _ else _) Q E s
       rw [if_neg (by intro h; rw [hn,Bool.false_and] at h; cases h)]
       exact wpAny_pure hQ))
def Itl (K : PySem.W.Frag) (a : Addr) : It:=
 ⟨fun i H=>∃ xs x,SqL K H a xs /\ xs[i]? = some x,fun i H x H'=>H' = H /\ ∀ xs,SqL K H a xs->xs[i]? = some x,fun i H=>∃ xs,SqL K H a xs /\ xs.length <= i⟩
def Itt (K : PySem.W.Frag) (a : Addr) : It:=
 ⟨fun i H=>∃ xs x,SqT K H a xs /\ xs[i]? = some x,fun i H x H'=>H' = H /\ ∀ xs,SqT K H a xs->xs[i]? = some x,fun i H=>∃ xs,SqT K H a xs /\ xs.length <= i⟩
def Itr (lo : Int) (n : Nat) : It:=⟨fun i _=>i < n,fun i H x H'=>H' = H /\ x = .int (lo + i),fun i _=>n <= i⟩
theorem turn_list {P : Program} {w : World} {K : PySem.W.Frag} {tg : Expr} (a it : Addr) : Turn P w K tg (Itl K a) [it] it (fun i h=>h.IsListIter it a i) where
 mem:=by simp
 obj:=fun i h st b hb=>by
  have e : b = it:=by simpa using hb
  subst e
  obtain ⟨o,e,c,d⟩:=st
  exact ⟨o,e,fun v z=>by rw [d] at z; cases z⟩
 keep:=fun i h h' st k=>st.at fun o e=>k it (by simp) o e
 item:=by
  intro X hP hw hK hc i pins s σ H E I hf st hg
  subst hP hw hK
  obtain ⟨xs,x,hq,hx⟩:=hg
  obtain ⟨its,rv,p,hz⟩:=I.list hq
  obtain ⟨u,hu,ru⟩:=rv.get hx
  obtain ⟨f0,f1,f2,f3,f4,f5⟩:=hf it (by simp)
  refine wpAny_pyNext_list_item st p.isList (x:=u) (by simpa using hu) fun h' st' sb=>?_
  have I1 : Inv X pins σ H { s with heap:=h' }:=I.turned (t':=s.toks) (fun b o hb e=>(sb.2 b hb).trans e) f0 f1 f3 f4 f5
  obtain ⟨o,e,c,d⟩:=id st'
  exact ⟨u,rfl,go_of (s:={ s with heap:=h' }) e c d (by decide) ⟨x,H,I1,ru,⟨rfl,fun ys hy=>by rw [I.list_inj hy hq]; exact hx⟩,st',fun b hb=>(hf b hb).1⟩⟩
 done:=by
  intro X hP hw hK hc i pins s σ H E I hf st hg
  subst hP hw hK
  obtain ⟨xs,hq,hx⟩:=hg
  obtain ⟨its,rv,p,hz⟩:=I.list hq
  obtain ⟨f0,f1,f2,f3,f4,f5⟩:=hf it (by simp)
  have hl:=rv.length
  exact wpAny_pyNext_list_end (I.ok.hd hc) st p.isList (by simp; omega) fun h' eb=>⟨rfl,I.turned (t':=s.toks) (fun b o hb e=>eb b o hb e) f0 f1 f3 f4 f5⟩
 self:=fun _ _ _ _ _ st h=>wpAny_pyIter_listiter st h
theorem turn_tuple {P : Program} {w : World} {K : PySem.W.Frag} {tg : Expr} (a it : Addr) : Turn P w K tg (Itt K a) [it] it (fun i h=>h.IsTupleIter it a i) where
 mem:=by simp
 obj:=fun i h st b hb=>by
  have e : b = it:=by simpa using hb
  subst e
  obtain ⟨o,e,c,d⟩:=st
  exact ⟨o,e,fun v z=>by rw [d] at z; cases z⟩
 keep:=fun i h h' st k=>st.at fun o e=>k it (by simp) o e
 item:=by
  intro X hP hw hK hc i pins s σ H E I hf st hg
  subst hP hw hK
  obtain ⟨xs,x,hq,hx⟩:=hg
  obtain ⟨its,rv,p,hz⟩:=I.tuple hq
  obtain ⟨u,hu,ru⟩:=rv.get hx
  obtain ⟨f0,f1,f2,f3,f4,f5⟩:=hf it (by simp)
  refine wpAny_pyNext_tuple_item st (show s.heap.IsTuple a its.toArray from p) (x:=u) (by simpa using hu) fun h' st' sb=>?_
  have I1 : Inv X pins σ H { s with heap:=h' }:=I.turned (t':=s.toks) (fun b o hb e=>(sb.2 b hb).trans e) f0 f1 f3 f4 f5
  obtain ⟨o,e,c,d⟩:=id st'
  exact ⟨u,rfl,go_of (s:={ s with heap:=h' }) e c d (by decide) ⟨x,H,I1,ru,⟨rfl,fun ys hy=>by rw [I.tuple_inj hy hq]; exact hx⟩,st',fun b hb=>(hf b hb).1⟩⟩
 done:=by
  intro X hP hw hK hc i pins s σ H E I hf st hg
  subst hP hw hK
  obtain ⟨xs,hq,hx⟩:=hg
  obtain ⟨its,rv,p,hz⟩:=I.tuple hq
  obtain ⟨f0,f1,f2,f3,f4,f5⟩:=hf it (by simp)
  have hl:=rv.length
  exact wpAny_pyNext_tuple_end (I.ok.hd hc) st (show s.heap.IsTuple a its.toArray from p) (by simp; omega) fun h' eb=>⟨rfl,I.turned (t':=s.toks) (fun b o hb e=>eb b o hb e) f0 f1 f3 f4 f5⟩
 self:=fun _ _ _ _ _ st h=>wpAny_pyIter_tupleiter st h
theorem turn_range {P : Program} {w : World} {K : PySem.W.Frag} {tg : Expr} (it : Addr) (lo : Int) (n : Nat) : Turn P w K tg (Itr lo n) [it] it (fun i h=>IsRangeIter h it (lo + (i : Nat) * 1) ((n : Int) - (i : Nat)) 1) where
 mem:=by simp
 obj:=fun i h st b hb=>by
  have e : b = it:=by simpa using hb
  subst e
  exact ⟨_,st,fun v z=>by
   have z' : Data.fields _ = Data.cell v:=z
   cases z'⟩
 keep:=fun i h h' st k=>k it (by simp) _ st
 item:=by
  intro X hP hw hK hc i pins s σ H E I hf st hg
  subst hP hw hK
  obtain ⟨f0,f1,f2,f3,f4,f5⟩:=hf it (by simp)
  have W:=Walks.range (prog:=X.prog) (w:=X.w) (I.ok.hd hc) it lo 1 n
  refine W.item i s _ _ hg st fun v h' tk hv st' kk=>?_
  obtain ⟨t,rfl⟩:=hv
  have I1 : Inv X pins σ H { s with heap:=h',toks:=tk }:=I.turned (fun b o hb e=>kk b o (by simpa using hb) e) f0 f1 f3 f4 f5
  refine ⟨_,rfl,go_of (s:={ s with heap:=h',toks:=tk }) (n:="range_iterator") st' rfl rfl (by decide) ⟨.int (lo + i),H,I1,⟨t,?_⟩,⟨rfl,rfl⟩,st',fun b hb=>(hf b hb).1⟩⟩
  rw [Int.mul_one]
 done:=by
  intro X hP hw hK hc i pins s σ H E I hf st hg
  subst hP hw hK
  obtain ⟨f0,f1,f2,f3,f4,f5⟩:=hf it (by simp)
  exact wpAny_pyNext_range_end (I.ok.hd hc) st (by have : n <= i:=hg; omega) fun h' eb=>⟨rfl,I.turned (t':=s.toks) (fun b o hb e=>eb b o hb e) f0 f1 f3 f4 f5⟩
 self:=fun _ _ _ _ _ st h=>wpAny_pyIter_rangeiter st h
section
variable {X : Cx} {tg : Expr}
theorem range_it {pins : List (Addr × Obj)} {σ : St} {H : Hp} {s : Shared} {R : It->Hp->Prop} {E : Value->Shared->Prop} {lo hi : Int} {t u v : Tok} {tk : Nat} (I : Inv X pins σ H s) (h1 : -(2 ^ 62) <= lo) (h2 : lo < 2 ^ 62) (h3 : -(2 ^ 62) <= hi) (h4 : hi < 2 ^ 62)
  (q : R (Itr lo (hi - lo).toNat) H) : wpAny (model X.prog X.w) X.A (pyIter (.ref s.heap.objs.size)) (PIE X pins σ tg R) E { s with heap:=s.heap.push { cls:=.type "range",data:=.fields #[.int lo t,.int hi u,.int 1 v] },toks:=tk }:=by
 refine wpAny_pyIter_range (IsRange.new ..) (small_one h1 h2 h3 h4) ?_
 have I1 : Inv X pins σ H { s with heap:=s.heap.push { cls:=.type "range",data:=.fields #[.int lo t,.int hi u,.int 1 v] },toks:=tk }:=I.kept fun b o e=>Heap.get?_push_of_some _ e
 refine ⟨(s.heap.push { cls:=.type "range",data:=.fields #[.int lo t,.int hi u,.int 1 v] }).objs.size,[(s.heap.push { cls:=.type "range",data:=.fields #[.int lo t,.int hi u,.int 1 v] }).objs.size],_,_,H,rfl,
  I1.kept (t':=tk) fun b o e=>Heap.get?_push_of_some _ e,turn_range _ lo (hi - lo).toNat,?_,fun b hb=>?_,q⟩
 ·have e1 : lo + ((0 : Nat) : Int) * 1 = lo:=by simp
  have e2 : (((hi - lo).toNat : Nat) : Int) - ((0 : Nat) : Int) = Builtin.Range.rangeSize lo hi 1:=by rw [rangeSize_one]; split <;> omega
  show IsRangeIter _ _ (lo + ((0 : Nat) : Int) * 1) ((((hi - lo).toNat : Nat) : Int) - ((0 : Nat) : Int)) 1
  rw [e1,e2]
  exact Heap.get?_push_size _ rfl
 ·have e : b = (s.heap.push { cls:=.type "range",data:=.fields #[.int lo t,.int hi u,.int 1 v] }).objs.size:=by simpa using hb
  subst e
  exact I1.fpOk (Nat.le_refl _) (I1.hok.fresh (Nat.le_refl _))
def iRng1 (ta : TA) : TI:=fun σ H R=>ta σ H fun vs H1=>∃ j : Int,vs = [.int j] /\ -(2 ^ 62) <= j /\ j < 2 ^ 62 /\ R (Itr 0 j.toNat) H1
def iRng2 (ta : TA) : TI:=fun σ H R=>ta σ H fun vs H1=>∃ i j : Int,vs = [.int i,.int j] /\ (-(2 ^ 62) <= i /\ i < 2 ^ 62 /\ -(2 ^ 62) <= j /\ j < 2 ^ 62) /\ R (Itr i (j - i).toNat) H1
theorem pi_range1 {a : Expr} {ta : TA} {p pos : Pos} (hg : Gl X "range") (hm : X.mg "range" = none) (ha : PA X [a] ta) (hs : starEach [a] X.env = [(false,eval a X.env)]:=by rfl) : PI X tg (.Call (.Name "range" p) [a] [] pos) (iRng1 ta):=by
 intro pins s σ H R I h
 refine Call_ (ld_blt I hg hm boot_range (PyProof.Rows.callWith_type1 (thn (ha pos pins s σ H _ I h) fun us s1 ⟨vs,H1,I1,r1,q1⟩=>?_) hs rfl))
 obtain ⟨j,e,q1,q2,q⟩:=q1
 subst e
 cases r1 with
 | cons r rr=>
  cases rr
  obtain ⟨t,rfl⟩:=r
  exact call_range_1 (range_it I1 (by omega) (by omega) q1 q2 (by simpa using q))
theorem pi_range2 {a b : Expr} {ta : TA} {p pos : Pos} (hg : Gl X "range") (hm : X.mg "range" = none) (ha : PA X [a,b] ta) (hs : starEach [a,b] X.env = [(false,eval a X.env),(false,eval b X.env)]:=by rfl) (hs2 : starEach [b] X.env = [(false,eval b X.env)]:=by rfl) :
  PI X tg (.Call (.Name "range" p) [a,b] [] pos) (iRng2 ta):=by
 intro pins s σ H R I h
 refine Call_ (ld_blt I hg hm boot_range (PyProof.Rows.callWith_type1 (thn (ha pos pins s σ H _ I h) fun us s1 ⟨vs,H1,I1,r1,q1⟩=>?_) (by rw [hs,hs2]) (by rw [hs2]; rfl)))
 obtain ⟨i,j,e,⟨q1,q2,q3,q4⟩,q⟩:=q1
 subst e
 cases r1 with
 | cons r rr=>
  cases rr with
  | cons r' rr=>
   cases rr
   obtain ⟨t,rfl⟩:=r
   obtain ⟨t',rfl⟩:=r'
   exact call_range_2 (range_it I1 q1 q2 q3 q4 q)
def tFor (wi : TI) (g : TG) (tb : TS) : TS:=fun D σ H=>wi σ H fun J H1=>∃ W : Nat->Nat->St->Hp->Prop,(∃ m,W 0 m σ H1) /\ ∀ i m σ H,W i m σ H->
 (J.stop i H /\ D.nx σ H) \/ (J.go i H /\ ∃ N : St->Hp->Prop,(∀ σ' H',N σ' H'->∃ m',m' < m /\ W (i + 1) m' σ' H') /\ ∀ x H',J.yld i H x H'->g x σ H' fun σ2 H2=>tb { D with nx:=N,ct:=N,bk:=D.nx } σ2 H2)
def pinsAt (fp : List Addr) (h : Heap) : List (Addr × Obj):=fp.filterMap fun b=>(h.get? b).map fun o=>(b,o)
theorem mem_pinsAt {fp : List Addr} {h : Heap} {b : Addr} {o : Obj} (hb : b ∈ fp) (e : h.get? b = some o) : (b,o) ∈ pinsAt fp h:=List.mem_filterMap.mpr ⟨b,hb,by rw [e]; rfl⟩
theorem of_pinsAt {fp : List Addr} {h : Heap} {p : Addr × Obj} (hp : p ∈ pinsAt fp h) : p.1 ∈ fp /\ h.get? p.1 = some p.2:=by
 obtain ⟨b,hb,e⟩:=List.mem_filterMap.mp hp
 cases q : h.get? b with
 | none=>rw [q] at e; cases e
 | some o=>
  rw [q] at e
  have e' : (b,o) = p:=Option.some.inj e
  subst e'
  exact ⟨hb,q⟩
theorem Inv.pinned {pins : List (Addr × Obj)} {σ : St} {H : Hp} {s : Shared} {fp : List Addr} (I : Inv X pins σ H s) (hf : ∀ b ∈ fp,FpOk X pins H b) (ho : ∀ b ∈ fp,∃ o,s.heap.get? b = some o /\ ∀ v,o.data ≠ .cell v) : Inv X (pins++pinsAt fp s.heap) σ H s:=
 I.pins_of fun p hp=>(List.mem_append.mp hp).elim (fun z=>I.pin p (List.mem_append_right _ z)) fun z=>by
  obtain ⟨hb,e⟩:=of_pinsAt z
  obtain ⟨f0,f1,f2,_⟩:=hf p.1 hb
  obtain ⟨o,e',d⟩:=ho p.1 hb
  rw [e] at e'; cases e'
  exact ⟨e,f0,f1,f2,d⟩
theorem Inv.unpinned {pins pl : List (Addr × Obj)} {σ : St} {H : Hp} {s : Shared} (I : Inv X (pins++pl) σ H s) : Inv X pins σ H s:=I.pins_of fun p hp=>I.pin p (List.mem_append_right _ (List.mem_append_left _ hp))
theorem ps_for {iter : Expr} {body : List Stmt} {wi : TI} {g : TG} {tb : TS} {pos : Pos} (hp : PassesOwn (model X.prog X.w) X.A X.env X.xe) (hc : X.calm = true) (hi : PI X tg iter wi) (hg : PG X tg g) (hb : PSs X body tb)
  (hs : ∀ x,foldedSetIterable iter X.env x = pure x:=by intro _; rfl) : PS X (.For tg iter body [] pos) (tFor wi g tb):=by
 intro pins s σ H D I h
 refine wpAny_For (thn (hi pins s σ H _ I h) fun v s1 h1=>thn h1 fun itv s2 h2=>?_) hs
 obtain ⟨it,fp,tn,J,H2,e,I2,T,st2,f2,W,⟨m0,w0⟩,turn⟩:=h2
 subst e
 -- what stays true of the iterator's objects through the loop
 have stat : ∀ {H' : Hp},(∀ b ∈ fp,H' b = none)->∀ b ∈ fp,FpOk X pins H' b:=fun hn b hb=>⟨hn b hb,(f2 b hb).2⟩
 refine codeAny_forLoop_any (fun n s'=>∃ i σ' H',Inv X pins σ' H' s' /\ tn i s'.heap /\ (∀ b ∈ fp,H' b = none) /\ W i n σ' H') ?_ m0 ⟨0,σ,H2,I2,st2,fun b hb=>(f2 b hb).1,w0⟩
 rintro n s3 ⟨i,σ3,H3,I3,st3,fr3,w3⟩
 rcases turn i n σ3 H3 w3 with ⟨stop,qn⟩ | ⟨go,N,hN,step⟩
 ·refine wpAny_passesOwn hp (thn (T.done X rfl rfl rfl hc i pins s3 σ3 H3 X.xe I3 (stat fr3) st3 stop) fun r s4 ⟨hr,I4⟩=>?_)
  subst hr
  exact wpAny_execs_nil ⟨σ3,H3,I4,qn⟩
 ·refine wpAny_passesOwn hp (thn (T.item X rfl rfl rfl hc i pins s3 σ3 H3 X.xe I3 (stat fr3) st3 go) fun r s4 ⟨u,hr,h4⟩=>?_)
  subst hr
  refine wpAny_passesOwn hp (thn h4 fun _ s5 ⟨x,H5,I5,r5,y5,st5,fr5⟩=>?_)
  have I5':=I5.pinned (stat fr5) (T.obj _ _ st5)
  refine wpAny_passesOwn hp (thn (hg _ s5 σ3 H5 x u _ I5' r5 (step x H5 y5)) fun _ s6 ⟨σ6,H6,I6,q6⟩=>?_)
  refine wpAny_passesOwn hp (thn (hb _ s6 σ6 H6 _ I6 q6) fun f s7 q7=>?_)
  have again : ∀ {σ7 : St} {H7 : Hp},Inv X (pins++pinsAt fp s5.heap) σ7 H7 s7->N σ7 H7->∃ m,m < n /\ ∃ i σ' H',Inv X pins σ' H' s7 /\ tn i s7.heap /\ (∀ b ∈ fp,H' b = none) /\ W i m σ' H':=fun {σ7 H7} I7 n7=>by
   obtain ⟨m',hm,w7⟩:=hN σ7 H7 n7
   refine ⟨m',hm,i + 1,σ7,H7,I7.unpinned,T.keep _ _ _ st5 fun b hb o e=>(I7.pin (b,o) (List.mem_append_right _ (List.mem_append_right _ (mem_pinsAt hb e)))).1,fun b hb=>?_,w7⟩
   obtain ⟨o,e,d⟩:=T.obj _ _ st5 b hb
   exact (I7.pin (b,o) (List.mem_append_right _ (List.mem_append_right _ (mem_pinsAt hb e)))).2.1
  cases f with
  | next=>obtain ⟨σ7,H7,I7,n7⟩:=q7; exact again I7 n7
  | cont=>obtain ⟨σ7,H7,I7,n7⟩:=q7; exact again I7 n7
  | brk=>obtain ⟨σ7,H7,I7,q7⟩:=q7; exact ⟨σ7,H7,I7.unpinned,q7⟩
  | ret v=>obtain ⟨x7,σ7,H7,I7,r7,q7⟩:=q7; exact ⟨x7,σ7,H7,I7.unpinned,r7,q7⟩
end
abbrev R2:=V->V->Hp->VK->Prop
def OpR (X : Cx) (f : Value->Value->Sem Value) (r : R2) : Prop:=
 ∀ (pins : List (Addr × Obj)) (s : Shared) (σ : St) (H : Hp) (x y : V) (v u : Value) (Q : VK),Inv X pins σ H s->RelV x v->RelV y u->r x y H Q->
  wpAny (model X.prog X.w) X.A (f v u) (EP X pins σ Q) X.xe s
def UnR (X : Cx) (f : Value->Sem Value) (r : V->Hp->VK->Prop) : Prop:=
 ∀ (pins : List (Addr × Obj)) (s : Shared) (σ : St) (H : Hp) (x : V) (v : Value) (Q : VK),Inv X pins σ H s->RelV x v->r x H Q->
  wpAny (model X.prog X.w) X.A (f v) (EP X pins σ Q) X.xe s
def CallR (X : Cx) (f : Value) (r : List V->Hp->VK->Prop) : Prop:=
 ∀ (pins : List (Addr × Obj)) (s : Shared) (σ : St) (H : Hp) (xs : List V) (us : List Value) (Q : VK),Inv X pins σ H s->Vals xs us->r xs H Q->
  wpAny (model X.prog X.w) X.A (call f us) (EP X pins σ Q) X.xe s
def tOp (r : R2) (ta tb : TE) : TE:=fun σ H Q=>ta σ H fun x H1=>tb σ H1 fun y H2=>r x y H2 Q
def tUn (r : V->Hp->VK->Prop) (ta : TE) : TE:=fun σ H Q=>ta σ H fun x H1=>r x H1 Q
def rI (C : Int->Int->Prop) (g : Int->Int->V) : R2:=fun x y H Q=>∃ i j,x = .int i /\ y = .int j /\ C i j /\ Q (g i j) H
def rI0 (g : Int->Int->V) : R2:=fun x y H Q=>∃ i j,x = .int i /\ y = .int j /\ Q (g i j) H
def rU (g : Int->V) : V->Hp->VK->Prop:=fun x H Q=>∃ i,x = .int i /\ Q (g i) H
section
variable {X : Cx} {a b c : Expr} {ta tb tc : TE} {pos : Pos}
theorem binT (ha : PE X a ta) (hb : PE X b tb) {pins : List (Addr × Obj)} {s : Shared} {σ : St} {H : Hp} {R : V->V->Hp->Prop} (I : Inv X pins σ H s)
  (h : ta σ H fun x H1=>tb σ H1 fun y H2=>R x y H2) {Q : Value->Shared->Prop} {f : Value->Value->Sem Value}
  (hf : ∀ v u s2 x y H2,Inv X pins σ H2 s2->RelV x v->RelV y u->R x y H2->wpAny (model X.prog X.w) X.A (f v u) Q X.xe s2) :
  wpAny (model X.prog X.w) X.A (eval a X.env) (fun v s₁=>wpAny (model X.prog X.w) X.A (eval b X.env) (fun u s₂=>wpAny (model X.prog X.w) X.A (f v u) Q X.xe s₂) X.xe s₁) X.xe s:=by
 refine thn (ha pins s σ H _ I h) fun v s1 ⟨x,H1,I1,r1,q1⟩=>?_
 refine thn (hb pins s1 σ H1 _ I1 q1) fun u s2 ⟨y,H2,I2,r2,q2⟩=>?_
 exact hf v u s2 x y H2 I2 r1 r2 q2
theorem pe_op {op : Operator} {r : R2} (ho : OpR X (binaryOp op) r) (ha : PE X a ta) (hb : PE X b tb) : PE X (.BinOp a op b pos) (tOp r ta tb):=by
 intro pins s σ H Q I h
 exact wpAny_BinOp (binT ha hb I h fun v u s2 x y H2 I2 rx ry q=>ho pins s2 σ H2 x y v u Q I2 rx ry q)
theorem pe_un {op : UnaryOp} {r : V->Hp->VK->Prop} (ho : UnR X (unaryOp op) r) (ha : PE X a ta) : PE X (.UnaryOp op a pos) (tUn r ta):=by
 intro pins s σ H Q I h
 exact UnaryOp_ (thn (ha pins s σ H _ I h) fun v s1 ⟨x,H1,I1,r1,q1⟩=>ho pins s1 σ H1 x v Q I1 r1 q1)
theorem opI {f : Value->Value->Sem Value} {C : Int->Int->Prop} {g : Int->Int->Int}
  (rule : ∀ (i j : Int) (t u : Tok) (s : Shared) (Q : Value->Shared->Prop) (E : Value->Shared->Prop),C i j->Q (.int (g i j) s.toks) { s with toks:=s.toks + 1 }->wpAny (model X.prog X.w) X.A (f (.int i t) (.int j u)) Q E s) :
  OpR X f (rI C fun i j=>.int (g i j)):=by
 intro pins s σ H x y v u Q I rx ry h
 obtain ⟨i,j,rfl,rfl,hc,q⟩:=h
 obtain ⟨t,rfl⟩:=rx
 obtain ⟨t',rfl⟩:=ry
 exact rule i j t t' s _ _ hc ⟨.int (g i j),H,I.tok _,⟨_,rfl⟩,q⟩
theorem opI0 {f : Value->Value->Sem Value} {g : Int->Int->Int}
  (rule : ∀ (i j : Int) (t u : Tok) (s : Shared) (Q : Value->Shared->Prop) (E : Value->Shared->Prop),Q (.int (g i j) s.toks) { s with toks:=s.toks + 1 }->wpAny (model X.prog X.w) X.A (f (.int i t) (.int j u)) Q E s) :
  OpR X f (rI0 fun i j=>.int (g i j)):=by
 intro pins s σ H x y v u Q I rx ry h
 obtain ⟨i,j,rfl,rfl,q⟩:=h
 obtain ⟨t,rfl⟩:=rx
 obtain ⟨t',rfl⟩:=ry
 exact rule i j t t' s _ _ ⟨.int (g i j),H,I.tok _,⟨_,rfl⟩,q⟩
theorem opB0 {f : Value->Value->Sem Value} {g : Int->Int->Bool}
  (rule : ∀ (i j : Int) (t u : Tok) (s : Shared) (Q : Value->Shared->Prop) (E : Value->Shared->Prop),Q (.bool (g i j)) s->wpAny (model X.prog X.w) X.A (f (.int i t) (.int j u)) Q E s) :
  OpR X f (rI0 fun i j=>.bl (g i j)):=by
 intro pins s σ H x y v u Q I rx ry h
 obtain ⟨i,j,rfl,rfl,q⟩:=h
 obtain ⟨t,rfl⟩:=rx
 obtain ⟨t',rfl⟩:=ry
 exact rule i j t t' s _ _ ⟨.bl (g i j),H,I,rfl,q⟩
def CDiv (i j : Int) : Prop:=0 < j /\ j < 1073741824
def CPow (i j : Int) : Prop:=0 <= j /\ j <= 1000000 /\ i.natAbs < 2 ^ 64
def CMul (i j : Int) : Prop:=(-(2 ^ 64) < i /\ i < 2 ^ 64) \/ (-(2 ^ 64) < j /\ j < 2 ^ 64)
theorem CMul.ok {i j : Int} (h : CMul i j) : IntMulOk i j:=by
 rcases h with ⟨h1,h2⟩ | ⟨h1,h2⟩
 ·exact .of_left (intBits_le_64 h1 h2)
 ·exact .of_right (intBits_le_64 h1 h2)
theorem op_add : OpR X (binaryOp .Add) (rI0 fun i j=>.int (i + j)):=opI0 fun _ _ _ _ _ _ _ q=>add_int q
theorem op_sub : OpR X (binaryOp .Sub) (rI0 fun i j=>.int (i - j)):=opI0 fun _ _ _ _ _ _ _ q=>sub_int q
theorem op_mul : OpR X (binaryOp .Mult) (rI CMul fun i j=>.int (i * j)):=opI fun _ _ _ _ _ _ _ hc q=>mul_int q hc.ok
theorem op_fdiv : OpR X (binaryOp .FloorDiv) (rI CDiv fun i j=>.int (i / j)):=opI fun i j _ _ _ _ _ hc q=>by
 have h1 : (0 : Int) < j:=hc.1
 have h2 : j < 1073741824:=hc.2
 exact floordiv_int (by omega) (by rw [Int.fdiv_eq_ediv_of_nonneg i (by omega)]; exact q) (.inl (PyProof.noPylong_small (by omega)))
theorem op_mod : OpR X (binaryOp .Mod) (rI (fun _ j=>0 < j) fun i j=>.int (i % j)):=opI fun i j _ _ _ _ _ hc q=>by
 have h1 : (0 : Int) < j:=hc
 exact mod_int' (by omega) (by rw [Int.fmod_eq_emod_of_nonneg i (by omega)]; exact q)
theorem op_pow : OpR X (binaryOp .Pow) (rI CPow fun i j=>.int (i ^ j.toNat)):=opI fun _ _ _ _ _ _ _ hc q=>pow_int_small hc.1 hc.2.1 hc.2.2 q
theorem unI {f : Value->Sem Value} {g : Int->Int}
  (rule : ∀ (i : Int) (t : Tok) (s : Shared) (Q : Value->Shared->Prop) (E : Value->Shared->Prop),Q (.int (g i) s.toks) { s with toks:=s.toks + 1 }->wpAny (model X.prog X.w) X.A (f (.int i t)) Q E s) :
  UnR X f (rU fun i=>.int (g i)):=by
 intro pins s σ H x v Q I rx h
 obtain ⟨i,rfl,q⟩:=h
 obtain ⟨t,rfl⟩:=rx
 exact rule i t s _ _ ⟨.int (g i),H,I.tok _,⟨_,rfl⟩,q⟩
theorem un_neg : UnR X (unaryOp .USub) (rU fun i=>.int (-i)):=unI fun _ _ _ _ _ q=>neg_int q
end
def scal : V->V->Bool
 | .non,.non=>true | .non,.int _=>true | .int _,.non=>true | .non,.bl _=>true | .bl _,.non=>true | .non,.str _=>true | .str _,.non=>true
 | .int _,.int _=>true | .bl _,.bl _=>true | .str _,.str _=>true | .byt _,.byt _=>true
 | .int _,.str _=>true | .str _,.int _=>true | .bl _,.str _=>true | .str _,.bl _=>true
 | _,_=>false
def rEq : R2:=fun x y H Q=>scal x y = true /\ Q (.bl (decide (x = y))) H
def rNe : R2:=fun x y H Q=>scal x y = true /\ Q (.bl (!decide (x = y))) H
theorem dec_int {i j : Int} : decide (V.int i = V.int j) = (i == j):=by
 rw [Bool.eq_iff_iff]
 simp
theorem dec_bl {i j : Bool} : decide (V.bl i = V.bl j) = (i == j):=by
 rw [Bool.eq_iff_iff]
 simp
theorem dec_str {i j : Str} : decide (V.str i = V.str j) = (i == j):=by
 rw [Bool.eq_iff_iff]
 simp
theorem dec_byt {i j : Array UInt8} : decide (V.byt i = V.byt j) = (i.toList == j.toList):=by
 rw [Bool.eq_iff_iff]
 cases i
 cases j
 simp
section
variable {X : Cx} {a b c : Expr} {ta tb tc : TE} {pos : Pos}
theorem fin_bl {pins : List (Addr × Obj)} {σ : St} {H : Hp} {s : Shared} {Q : VK} {k k' : Bool} (I : Inv X pins σ H s) (q : Q (.bl k) H) (e : k = k') : EP X pins σ Q (.bool k') s:=by
 subst e
 exact ⟨.bl k,H,I,rfl,q⟩
theorem op_eq : OpR X (compareOp .Eq) rEq:=by
 intro pins s σ H x y v u Q I rx ry h
 obtain ⟨hs,q⟩:=h
 cases x with
 | non=>
  cases rx
  cases y with
  | non=>cases ry; exact PySem.EqNone.eq_none_none (fin_bl I q (by simp))
  | bl j=>cases ry; exact PySem.EqNone.eq_none_bool (fin_bl I q (by simp))
  | int j=>obtain ⟨t',rfl⟩:=ry; exact PySem.EqNone.eq_none_int (fin_bl I q (by simp))
  | str j=>obtain ⟨t',rfl⟩:=ry; exact PySem.EqNone.eq_none_str (fin_bl I q (by simp))
  | _=>exact absurd (show false = true from hs) Bool.false_ne_true
 | bl i=>
  cases rx
  cases y with
  | non=>cases ry; exact PySem.EqNone.eq_bool_none (fin_bl I q (by simp))
  | bl j=>cases ry; exact eq_bool (fin_bl I q dec_bl)
  | str j=>obtain ⟨t',rfl⟩:=ry; exact PySem.EqMixed.eq_bool_str (fin_bl I q (by simp))
  | _=>exact absurd (show false = true from hs) Bool.false_ne_true
 | int i=>
  obtain ⟨t,rfl⟩:=rx
  cases y with
  | non=>cases ry; exact PySem.EqNone.eq_int_none (fin_bl I q (by simp))
  | int j=>obtain ⟨t',rfl⟩:=ry; exact eq_int (fin_bl I q dec_int)
  | str j=>obtain ⟨t',rfl⟩:=ry; exact PySem.EqMixed.eq_int_str (fin_bl I q (by simp))
  | _=>exact absurd (show false = true from hs) Bool.false_ne_true
 | str i=>
  obtain ⟨t,rfl⟩:=rx
  cases y with
  | non=>cases ry; exact PySem.EqNone.eq_str_none (fin_bl I q (by simp))
  | bl j=>cases ry; exact PySem.EqMixed.eq_str_bool (fin_bl I q (by simp))
  | int j=>obtain ⟨t',rfl⟩:=ry; exact PySem.EqMixed.eq_str_int (fin_bl I q (by simp))
  | str j=>obtain ⟨t',rfl⟩:=ry; exact eq_str (fin_bl I q dec_str)
  | _=>exact absurd (show false = true from hs) Bool.false_ne_true
 | byt i=>
  obtain ⟨t,rfl⟩:=rx
  cases y with
  | byt j=>obtain ⟨t',rfl⟩:=ry; exact PySem.W.eq_bytes (fin_bl I q dec_byt)
  | _=>exact absurd (show false = true from hs) Bool.false_ne_true
 | _=>cases y <;> exact absurd (show false = true from hs) Bool.false_ne_true
theorem op_ne : OpR X (compareOp .NotEq) rNe:=by
 intro pins s σ H x y v u Q I rx ry h
 obtain ⟨hs,q⟩:=h
 cases x with
 | non=>
  cases rx
  cases y with
  | non=>cases ry; exact PySem.EqNone.ne_none_none (fin_bl I q (by simp))
  | bl j=>cases ry; exact PySem.EqNone.ne_none_bool (fin_bl I q (by simp))
  | int j=>obtain ⟨t',rfl⟩:=ry; exact PySem.EqNone.ne_none_int (fin_bl I q (by simp))
  | str j=>obtain ⟨t',rfl⟩:=ry; exact PySem.EqNone.ne_none_str (fin_bl I q (by simp))
  | _=>exact absurd (show false = true from hs) Bool.false_ne_true
 | bl i=>
  cases rx
  cases y with
  | non=>cases ry; exact PySem.EqNone.ne_bool_none (fin_bl I q (by simp))
  | bl j=>cases ry; exact ne_bool (fin_bl I q (congrArg not dec_bl))
  | str j=>obtain ⟨t',rfl⟩:=ry; exact PySem.EqMixed.ne_bool_str (fin_bl I q (by simp))
  | _=>exact absurd (show false = true from hs) Bool.false_ne_true
 | int i=>
  obtain ⟨t,rfl⟩:=rx
  cases y with
  | non=>cases ry; exact PySem.EqNone.ne_int_none (fin_bl I q (by simp))
  | int j=>obtain ⟨t',rfl⟩:=ry; exact ne_int (fin_bl I q (congrArg not dec_int))
  | str j=>obtain ⟨t',rfl⟩:=ry; exact PySem.EqMixed.ne_int_str (fin_bl I q (by simp))
  | _=>exact absurd (show false = true from hs) Bool.false_ne_true
 | str i=>
  obtain ⟨t,rfl⟩:=rx
  cases y with
  | non=>cases ry; exact PySem.EqNone.ne_str_none (fin_bl I q (by simp))
  | bl j=>cases ry; exact PySem.EqMixed.ne_str_bool (fin_bl I q (by simp))
  | int j=>obtain ⟨t',rfl⟩:=ry; exact PySem.EqMixed.ne_str_int (fin_bl I q (by simp))
  | str j=>obtain ⟨t',rfl⟩:=ry; exact ne_str (fin_bl I q (congrArg not dec_str))
  | _=>exact absurd (show false = true from hs) Bool.false_ne_true
 | byt i=>
  obtain ⟨t,rfl⟩:=rx
  cases y with
  | byt j=>obtain ⟨t',rfl⟩:=ry; exact PySem.W.ne_bytes (fin_bl I q (congrArg not dec_byt))
  | _=>exact absurd (show false = true from hs) Bool.false_ne_true
 | _=>cases y <;> exact absurd (show false = true from hs) Bool.false_ne_true
theorem op_le : OpR X (compareOp .LtE) (rI0 fun i j=>.bl (decide (i <= j))):=opB0 fun _ _ _ _ _ _ _ q=>le_int q
theorem op_gt : OpR X (compareOp .Gt) (rI0 fun i j=>.bl (decide (j < i))):=opB0 fun _ _ _ _ _ _ _ q=>gt_int q
theorem op_in_str : OpR X (compareOp .In) (fun x y H Q=>∃ i j,x = .str i /\ y = .str j /\ Q (.bl (!(Builtin.Str.occurrences j i 0 j.length 1).isEmpty)) H):=by
 intro pins s σ H x y v u Q I rx ry h
 obtain ⟨i,j,rfl,rfl,q⟩:=h
 obtain ⟨t,rfl⟩:=rx
 obtain ⟨t',rfl⟩:=ry
 exact in_str (fin_bl I q rfl)
theorem OpR.or {f : Value->Value->Sem Value} {r r' : R2} (h : OpR X f r) (h' : OpR X f r') : OpR X f (fun x y H Q=>r x y H Q \/ r' x y H Q):=by
 intro pins s σ H x y v u Q I rx ry q
 rcases q with q | q
 ·exact h pins s σ H x y v u Q I rx ry q
 ·exact h' pins s σ H x y v u Q I rx ry q
theorem nomark (b : Expr) {op : CmpOp} (h : op ≠ .In:=by decide) (h2 : op ≠ .NotIn:=by decide) : behindInMarks op b = false:=by
 have e1 : (op == CmpOp.In) = false:=by cases op <;> first | rfl | exact absurd rfl h
 have e2 : (op == CmpOp.NotIn) = false:=by cases op <;> first | rfl | exact absurd rfl h2
 cases b <;> simp [behindInMarks,e1,e2]
theorem pe_cmpR {op : CmpOp} {r : R2} (ho : OpR X (compareOp op) r) (ha : PE X a ta) (hb : PE X b tb) (hm : behindInMarks op b = false) : PE X (.Compare a [op] [b] pos) (tOp r ta tb):=by
 intro pins s σ H Q I h
 exact wpAny_Compare1 (binT ha hb I h fun v u s2 x y H2 I2 rx ry q=>ho pins s2 σ H2 x y v u Q I2 rx ry q) hm
def tTest (t : TE) : TT:=fun σ H Q=>t σ H fun x H'=>∃ k,x = .bl k /\ Q k H'
theorem pt_cmpR {op : CmpOp} {r : R2} (ho : OpR X (compareOp op) r) (ha : PE X a ta) (hb : PE X b tb) (hm : behindInMarks op b = false) : PT X (.Compare a [op] [b] pos) (tTest (tOp r ta tb)):=by
 intro pins s σ H Q I h
 refine wpAny_isTrue_Compare1 (thn (ha pins s σ H _ I h) fun v s1 ⟨x,H1,I1,r1,q1⟩=>thn (hb pins s1 σ H1 _ I1 q1) fun u s2 ⟨y,H2,I2,r2,q2⟩=>
  thn (ho pins s2 σ H2 x y v u _ I2 r1 r2 q2) fun c s3 ⟨z,H3,I3,r3,k,e,q3⟩=>?_) hm
 subst e
 cases r3
 exact wpAny_truthy_bool ⟨H3,I3,q3⟩
def tChain (r r' : R2) (ta tb tc : TE) : TE:=fun σ H Q=>ta σ H fun x H1=>tb σ H1 fun y H2=>r x y H2 fun z H3=>∃ k,z = .bl k /\
 (if k = true then tc σ H3 fun w' H4=>r' y w' H4 Q else Q (.bl false) H3)
theorem pe_chain {op op' : CmpOp} {r r' : R2} (ho : OpR X (compareOp op) r) (ho' : OpR X (compareOp op') r') (ha : PE X a ta) (hb : PE X b tb) (hc : PE X c tc)
  (hm : lastMarks [op,op'] [b,c] = false:=by with_unfolding_all rfl) : PE X (.Compare a [op,op'] [b,c] pos) (tChain r r' ta tb tc):=by
 intro pins s σ H Q I h
 refine Compare_chain (thn (ha pins s σ H _ I h) fun v s1 ⟨x,H1,I1,r1,q1⟩=>chain_link (thn (hb pins s1 σ H1 _ I1 q1) fun u s2 ⟨y,H2,I2,r2,q2⟩=>
  thn (ho pins s2 σ H2 x y v u _ I2 r1 r2 q2) fun d s3 ⟨z,H3,I3,r3,k,e,q3⟩=>?_)) hm
 subst e
 cases r3
 refine wpAny_truthy_bool ?_
 cases k with
 | false=>exact ite_ff ⟨.bl false,H3,I3,rfl,q3⟩
 | true=>exact ite_tt (chain_last (thn (hc pins s3 σ H3 _ I3 q3) fun w' s4 ⟨z',H4,I4,r4,q4⟩=>ho' pins s4 σ H4 y z' u w' Q I4 r2 r4 q4))
theorem pt_chain {op op' : CmpOp} {r r' : R2} (ho : OpR X (compareOp op) r) (ho' : OpR X (compareOp op') r') (ha : PE X a ta) (hb : PE X b tb) (hc : PE X c tc)
  (hm : lastMarks [op,op'] [b,c] = false:=by with_unfolding_all rfl) : PT X (.Compare a [op,op'] [b,c] pos) (tTest (tChain r r' ta tb tc)):=by
 intro pins s σ H Q I h
 refine isTrue_chain (thn (ha pins s σ H _ I h) fun v s1 ⟨x,H1,I1,r1,q1⟩=>test_link (thn (hb pins s1 σ H1 _ I1 q1) fun u s2 ⟨y,H2,I2,r2,q2⟩=>
  thn (ho pins s2 σ H2 x y v u _ I2 r1 r2 q2) fun d s3 ⟨z,H3,I3,r3,k,e,q3⟩=>?_)) hm
 subst e
 cases r3
 refine wpAny_truthy_bool ?_
 cases k with
 | false=>
  obtain ⟨k',e',q'⟩:=q3
  cases e'
  exact ite_ff ⟨H3,I3,q'⟩
 | true=>
  refine ite_tt (test_last (thn (hc pins s3 σ H3 _ I3 q3) fun w' s4 ⟨z',H4,I4,r4,q4⟩=>thn (ho' pins s4 σ H4 y z' u w' _ I4 r2 r4 q4) fun d' s5 ⟨z2,H5,I5,r5,k2,e2,q5⟩=>?_))
  subst e2
  cases r5
  exact wpAny_truthy_bool ⟨H5,I5,q5⟩
theorem line63 : (sizeLine : Nat) < 2 ^ 63:=by rw [sizeLine_eq]; decide
theorem op_add_str : OpR X (binaryOp .Add) (fun x y H Q=>∃ i j,x = .str i /\ y = .str j /\ i.length + j.length <= sizeLine /\ Q (.str (i++j)) H):=by
 intro pins s σ H x y v u Q I rx ry h
 obtain ⟨i,j,rfl,rfl,hz,q⟩:=h
 obtain ⟨t,rfl⟩:=rx
 obtain ⟨t',rfl⟩:=ry
 exact add_str (fun t' tk=>⟨.str (i++j),H,I.tok _,⟨_,rfl⟩,q⟩) hz
theorem vals1 {x : V} {us : List Value} (r : Vals [x] us) : ∃ u,us = [u] /\ RelV x u:=by
 cases r with
 | cons r1 r2=>cases r2; exact ⟨_,rfl,r1⟩
theorem vals2 {x y : V} {us : List Value} (r : Vals [x,y] us) : ∃ u w',us = [u,w'] /\ RelV x u /\ RelV y w':=by
 cases r with
 | cons r1 r2=>
  cases r2 with
  | cons r3 r4=>cases r4; exact ⟨_,_,rfl,r1,r3⟩
theorem call_max2 (hc : X.calm = true) : CallR X (.builtin "max") (fun xs H Q=>∃ i j,xs = [.int i,.int j] /\ Q (.int (if j > i then j else i)) H):=by
 intro pins s σ H xs us Q I r h
 obtain ⟨i,j,rfl,q⟩:=h
 obtain ⟨u,w',rfl,⟨t,rfl⟩,⟨t',rfl⟩⟩:=vals2 r
 refine max_two_ints (I.ok.hd hc) fun h' tk k=>⟨_,H,I.kept k,?_,q⟩
 by_cases hj : j > i
 ·rw [if_pos hj,if_pos hj]; exact ⟨_,rfl⟩
 ·rw [if_neg hj,if_neg hj]; exact ⟨_,rfl⟩
theorem call_min2 (hc : X.calm = true) : CallR X (.builtin "min") (fun xs H Q=>∃ i j,xs = [.int i,.int j] /\ Q (.int (if j < i then j else i)) H):=by
 intro pins s σ H xs us Q I r h
 obtain ⟨i,j,rfl,q⟩:=h
 obtain ⟨u,w',rfl,⟨t,rfl⟩,⟨t',rfl⟩⟩:=vals2 r
 refine min_two_ints (I.ok.hd hc) fun h' tk k=>⟨_,H,I.kept k,?_,q⟩
 by_cases hj : j < i
 ·rw [if_pos hj,if_pos hj]; exact ⟨_,rfl⟩
 ·rw [if_neg hj,if_neg hj]; exact ⟨_,rfl⟩
theorem call_int1 : CallR X (.type "int") (fun xs H Q=>(∃ i,xs = [.int i] /\ Q (.int i) H) \/ ∃ k,xs = [.bl k] /\ Q (.int (if k then 1 else 0)) H):=by
 intro pins s σ H xs us Q I r h
 rcases h with ⟨i,rfl,q⟩ | ⟨k,rfl,q⟩
 ·obtain ⟨u,rfl,t,rfl⟩:=vals1 r
  exact call_int_int ⟨.int i,H,I,⟨_,rfl⟩,q⟩
 ·obtain ⟨u,rfl,r1⟩:=vals1 r
  cases r1
  exact call_int_bool ⟨.int (if k then 1 else 0),H,I.tok _,⟨_,rfl⟩,q⟩
end
structure ObjM (h : Heap) (x dx C : Addr) (mA : Str->Option Value) : Prop where
 obj : h.get? x = some (PySem.W.instObj C dx)
 ns : h.Ns1 dx mA
 ne : dx ≠ x
theorem lookIn_ns {h : Heap} {dx : Addr} {mA : Str->Option Value} (n : h.Ns1 dx mA) : ∃ od,h.get? dx = some od /\ ∀ name,PySem.W.lookIn name od = some (mA name):=by
 obtain ⟨o,es,ep,ho,hd,hk,_,hm⟩:=n
 refine ⟨o,ho,fun name=>?_⟩
 have e:=hm name
 unfold nsFind findBy at e
 rw [<- Array.find?_toList] at e
 unfold PySem.W.lookIn
 rw [hd]
 dsimp only
 split
 ·rename_i y q
  rw [q] at e
  exact congrArg some e
 ·rename_i q
  rw [q] at e
  have a : es.toList.any (·.refKey) = false:=by
   rw [List.any_eq_false]
   intro y hy
   obtain ⟨z,t,hkey⟩:=hk y (Array.mem_toList_iff.mp hy)
   simp [DictEntry.refKey,hkey]
  have a' : ¬ es.toList.any (·.refKey) = true:=by rw [a]; exact Bool.false_ne_true
  rw [if_neg a']
  exact congrArg some e
theorem ObjM.look {h : Heap} {x dx C : Addr} {mA : Str->Option Value} (I : ObjM h x dx C mA) : ∃ od,PySem.W.InstAt h x (PySem.W.instObj C dx) C (some od) /\ ∀ name,PySem.W.lookIn name od = some (mA name):=
 let ⟨od,ho,hl⟩:=lookIn_ns I.ns
 ⟨od,⟨I.obj,rfl,rfl,ho⟩,hl⟩
section
variable {prog : Program} {w : World} {A : Around} {E : Value->Shared->Prop} {s : Shared} {K : PySem.W.Frag} {x dx C f : Addr} {mA : Str->Option Value} {name : Str} {v : Value}
end
theorem RelO.some_of {v : V} {o : Option Value} (r : RelO (some v) o) : ∃ u,o = some u /\ RelV v u:=by
 cases o with
 | none=>exact (show False from r).elim
 | some u=>exact ⟨u,rfl,r⟩
theorem RelO.none_of {o : Option Value} (r : RelO none o) : o = none:=by
 cases o with
 | none=>rfl
 | some u=>exact (show False from r).elim
section
variable {P : Program} {w : World} {H H' : Hp} {h h' : Heap} {a C dx : Addr} {fs fs' : List (Str × V)}
theorem ins_get (hok : HOk P w H h) (e : H a = some (.ins C dx fs)) : ∃ mA,ObjM h a dx C mA /\ (∀ f,RelO (fs.lookup f) (mA f)) /\ PySem.Within mA (fs.map (·.1)) /\ fs.length <= 1000 /\ H dx = some (.own a):=by
 obtain ⟨d,z,ne,ob,mA,n,r,q⟩:=(show ObjOk P w H h a (.ins C dx fs) from hok a _ e)
 exact ⟨mA,⟨ob,n,ne⟩,r,q,z,d⟩
end
structure Cls (K : PySem.W.Frag) (C : Addr) : Prop where
 pg : PySem.W.plainGet K C Str.empty = true
 hd : PySem.W.hasDictIn K C = true
 po : PySem.W.plainOver K C = true
 sa : PySem.W.findIn K (.ref C) "__setattr__" = some (some (.builtin "object.__setattr__"))
theorem Cls.get {K : PySem.W.Frag} {C : Addr} (c : Cls K C) (f : Str) : PySem.W.plainGet K C f = true:=c.pg
section
variable {X : Cx} {pins : List (Addr × Obj)} {σ : St} {H : Hp} {s : Shared} {a C dx : Addr} {fs : List (Str × V)} {f : Str} {v : V} {A : Around} {E : Value->Shared->Prop}
end
section
variable {X : Cx} {o e value : Expr} {f : Str} {pos pos' tpos : Pos} {ta tv : TE}
end
section
variable {X : Cx} {pins : List (Addr × Obj)} {σ : St} {H : Hp} {s : Shared} {A : Around} {E : Value->Shared->Prop} {Q : Value->Shared->Prop} {c : Value} {b : Bool}
inductive TyOf (K : PySem.W.Frag) (H : Hp) : V->Value->Prop where
 | non : TyOf K H .non (.type "NoneType")
 | bl (x : Bool) : TyOf K H (.bl x) (.type "bool")
 | int (i : Int) : TyOf K H (.int i) (.type "int")
 | str (x : Str) : TyOf K H (.str x) (.type "str")
 | flt (x : UInt64) : TyOf K H (.flt x) (.type "float")
 | lst {a : Addr} {xs : List V} (e : H a = some (.lst xs)) : TyOf K H (.ref a) (.type "list")
 | frz {a : Addr} {o : Obj} {xs : List V} (e : H a = some (.frz o (.lst xs))) : TyOf K H (.ref a) (.type "list")
 | tup {a : Addr} {xs : List V} (e : H a = some (.tup xs)) : TyOf K H (.ref a) (.type "tuple")
 | dK {a : Addr} {kvs : List (Key × V)} (e : H a = some (.dK kvs)) : TyOf K H (.ref a) (.type "dict")
 | dT {a : Addr} {kvs : List (List Key × V)} (e : H a = some (.dT kvs)) : TyOf K H (.ref a) (.type "dict")
 | ins {a C dx : Addr} {fs : List (Str × V)} (e : H a = some (.ins C dx fs)) (cl : Cls K C) (ha : PySem.W.findIn K (.ref C) "__class__" = some (some (.builtin "object.__class__")))
   (hn : PySem.W.specialIn K (.builtin "object.__class__") "__get__" = some (some (.builtin "getset_descriptor.__get__"))) (htk : PySem.W.takesIn K (.builtin "object.__class__") = some true)
   (hm : PySem.W.mroIn K C (.type "object") = some true) : TyOf K H (.ref a) (.ref C)
theorem isinst_ok {x : V} {u t : Value} (I : Inv X pins σ H s) (rx : RelV x u) (ty : TyOf X.K H x t) (e : PySem.W.kitOne X.K t c = some b) (h : ∀ tk,Q (.bool b) { s with toks:=tk }) :
  wpAny (model X.prog X.w) A (call (.builtin "isinstance") [u,c]) Q E s:=by
 cases ty with
 | non=>cases (show u = Value.none from rx); exact PySem.W.kia_one PySem.W.kitx_none I.kIn True.intro e (fun z=>nomatch z) h
 | bl y=>cases (show u = Value.bool y from rx); exact PySem.W.kia_one PySem.W.kitx_bool I.kIn True.intro e (fun z=>nomatch z) h
 | int i=>obtain ⟨t,q⟩:=(show ∃ t,u = Value.int i t from rx); cases q; exact PySem.W.kia_one PySem.W.kitx_int I.kIn True.intro e (fun z=>nomatch z) h
 | str y=>obtain ⟨t,q⟩:=(show ∃ t,u = Value.str y t from rx); cases q; exact PySem.W.kia_one PySem.W.kitx_str I.kIn True.intro e (fun z=>nomatch z) h
 | flt y=>obtain ⟨t,q⟩:=(show ∃ t,u = Value.float y t from rx); cases q; exact PySem.W.kia_one PySem.W.kitx_float I.kIn True.intro e (fun z=>nomatch z) h
 | @lst a xs ea=>
  cases (show u = Value.ref a from rx)
  obtain ⟨_,_,n,_,h1⟩:=(show ObjOk X.prog X.w H s.heap a (.lst xs) from I.hok a _ ea)
  exact PySem.W.kia_one PySem.W.kitx_list I.kIn ⟨_,h1,rfl⟩ e (fun z=>nomatch z) h
 | @frz a ob xs ea=>
  cases (show u = Value.ref a from rx)
  obtain ⟨_,_,_,n,_,h1⟩:=(show ObjOk X.prog X.w H s.heap a (.frz ob (.lst xs)) from I.hok a _ ea)
  exact PySem.W.kia_one PySem.W.kitx_list I.kIn ⟨_,h1,rfl⟩ e (fun z=>nomatch z) h
 | @tup a xs ea=>
  cases (show u = Value.ref a from rx)
  obtain ⟨_,_,_,p⟩:=(show ObjOk X.prog X.w H s.heap a (.tup xs) from I.hok a _ ea)
  obtain ⟨o,h1,h2,_⟩:=p
  exact PySem.W.kia_one PySem.W.kitx_tuple I.kIn ⟨o,h1,h2⟩ e (fun z=>nomatch z) h
 | @dK a kvs ea=>
  cases (show u = Value.ref a from rx)
  obtain ⟨_,_,vs,_,p⟩:=(show ObjOk X.prog X.w H s.heap a (.dK kvs) from I.hok a _ ea)
  obtain ⟨o,es,ep,h1,h2,_⟩:=p
  exact PySem.W.kia_one PySem.W.kitx_dict I.kIn ⟨o,h1,h2.1⟩ e (fun z=>nomatch z) h
 | @dT a kvs ea=>
  cases (show u = Value.ref a from rx)
  obtain ⟨_,_,xs,_,o,es,ep,h1,h2,_⟩:=(show ObjOk X.prog X.w H s.heap a (.dT kvs) from I.hok a _ ea)
  exact PySem.W.kia_one PySem.W.kitx_dict I.kIn ⟨o,h1,h2.1⟩ e (fun z=>nomatch z) h
 | @ins a C dx fs ea cl ha hn htk hm=>
  cases (show u = Value.ref a from rx)
  obtain ⟨mA,O,_⟩:=ins_get I.hok ea
  obtain ⟨od,J,_⟩:=O.look
  exact PySem.W.kia_one (PySem.W.kitx_own (cl.get _) cl.hd ha hn htk hm) I.kIn J e (fun z=>nomatch z) h
end
structure Room (k : Nat) (A : Around) : Prop where
 hd : A.handled = none
 dp : A.depth + 3 * k + 5 < recursionLimit
 un : A.units + 16 * k + 200 < cLine
theorem Room.mono {j k : Nat} {A : Around} (r : Room k A) (h : j <= k) : Room j A:=⟨r.hd,by have:=r.dp; omega,by have:=r.un; omega⟩
theorem Room.deeper {k : Nat} {A : Around} (r : Room (k + 1) A) (env : Env) : Room k (A.deeper env):=
 ⟨r.hd,by have:=r.dp; show A.depth + 1 + 3 * k + 5 < _; omega,by have:=r.un; show A.units + 3 + 16 * k + 200 < _; omega⟩
theorem Room.depth {k : Nat} {A : Around} (r : Room k A) : A.depth < recursionLimit:=by have:=r.dp; omega
def tNil : TA:=fun _ H Q=>Q [] H
def tCons (ta : TE) (tr : TA) : TA:=fun σ H Q=>ta σ H fun x H1=>tr σ H1 fun xs H2=>Q (x::xs) H2
section
variable {X : Cx} {e : Expr} {es : List Expr} {te : TE} {t : TA} {pos : Pos}
theorem pa_nil : PA X [] tNil:=fun _ _ _ _ H Q I h=>Calls.spliced_nil ⟨[],H,I,.nil,h⟩
theorem pa_cons (ha : PE X e te) (hr : PA X es t) (hs : starEach (e::es) X.env = (false,eval e X.env)::starEach es X.env:=by rfl) : PA X (e::es) (tCons te t):=by
 intro pos pins s σ H Q I h
 rw [hs]
 show wpAny _ _ (spliced ((false,eval e X.env)::backTo pos (starEach es X.env))) _ _ s
 refine Calls.spliced_cons (thn (ha pins s σ H _ I h) fun u s1 ⟨x,H1,I1,r1,q1⟩=>?_)
 exact thn (hr pos pins s1 σ H1 _ I1 q1) fun us s2 ⟨xs,H2,I2,r2,q2⟩=>⟨x::xs,H2,I2,.cons r1 r2,q2⟩
def tTup (t : TA) : TE:=fun σ H Q=>t σ H fun xs H1=>xs.length <= sizeLine /\ ∀ p,H1 p = none->Q (.ref p) (upd H1 p (.tup xs))
def tLst (t : TA) : TE:=fun σ H Q=>t σ H fun xs H1=>xs.length <= sizeLine /\ ∀ p,H1 p = none->Q (.ref p) (upd H1 p (.lst xs))
theorem pe_tup {x1} (h : PA X es t) : PE X (.Tuple es x1 pos) (tTup t):=by
 intro pins s σ H Q I hq
 refine wpAny_Tuple_spliced (thn (h pos pins s σ H _ I hq) fun us s1 ⟨xs,H1,I1,r,z,q⟩=>⟨by rw [<- r.length]; exact z,?_⟩)
 have hf : H1 s1.heap.objs.size = none:=I1.hok.fresh (Nat.le_refl _)
 refine ⟨.ref s1.heap.objs.size,upd H1 s1.heap.objs.size (.tup xs),I1.laid (t':=s1.toks) (fun b u e=>Heap.get?_push_of_some _ e) (Nat.le_refl _) ?_,rfl,q _ hf⟩
 exact ⟨z,us,r,⟨_,Heap.get?_push_size _ rfl,rfl,_,rfl⟩⟩
theorem pe_lst (h : PA X es t) : PE X (.List es pos) (tLst t):=by
 intro pins s σ H Q I hq
 refine wpAny_List_spliced (thn (h pos pins s σ H _ I hq) fun us s1 ⟨xs,H1,I1,r,z,q⟩=>⟨by rw [<- r.length]; exact z,?_⟩)
 have hf : H1 s1.heap.objs.size = none:=I1.hok.fresh (Nat.le_refl _)
 refine ⟨.ref s1.heap.objs.size,upd H1 s1.heap.objs.size (.lst xs),I1.laid (t':=s1.toks) (fun b u e=>Heap.get?_push_of_some _ e) (Nat.le_refl _) ?_,rfl,q _ hf⟩
 exact ⟨z,us,0,r,Heap.get?_push_size _ rfl⟩
end
abbrev Sp:=List V->Hp->VK->XK->Prop
abbrev CXT:=List Env->Hp->Shared->XK->Value->Shared->Prop
structure Env0 (P : Program) (w : World) (K : PySem.W.Frag) (mg : Str->Option Value) (base : Heap) (A : Around) (outer : List Env) (s : Shared) (H : Hp) : Prop where
 frames : A.frames = some outer
 mod : Mod K mg base
 bs : ∀ b o,base.get? b = some o->s.heap.get? b = some o /\ H b = none
 bsz : base.objs.size <= s.heap.objs.size
 funs : s.heap.FunFrames base outer
 frf : ∀ b ∈ frs outer,H b = none
 hok : HOk P w H s.heap
 bare : AllBare s.gens
def CE (outer : List Env) (P : Program) (w : World) (H : Hp) (s : Shared) (Q : VK) (u : Value) (s' : Shared) : Prop:=
 ∃ v H',s'.os = s.os /\ AllBare s'.gens /\ Un (frs outer) [] H H' s.heap s'.heap /\ HOk P w H' s'.heap /\ RelV v u /\ Q v H'
def CR (CX : CXT) (outer : List Env) (P : Program) (w : World) (H : Hp) (s : Shared) (Q : VK) (E : XK) (r : Result) (s' : Shared) : Prop:=
 match r with
 | .ok (.ret u)=>CE outer P w H s Q u s'
 | .ok _=>False
 | .error e=>CX outer H s E e s'
structure FnOk (P : Program) (w : World) (K : PySem.W.Frag) (mg : Str->Option Value) (base : Heap) (CX : CXT) (k : Nat) (f : Addr) (fd : FuncData) (ps : List Str) (sp : Sp) : Prop where
 len : ∀ vs H Q E,sp vs H Q E->vs.length = ps.length
 run : ∀ (A : Around) (outer : List Env) (s : Shared) (H : Hp) (args : Args) (us : List Value) (vs : List V) (Q : VK) (E : XK),Room k A->Env0 P w K mg base A outer s H->BindsTo s fd args (ps.zip us)->Vals vs us->sp vs H Q E->
  codeAny (model P w) A (.call (.ref f) args) (CR CX outer P w H s Q E) s
section
variable {X : Cx} {pins : List (Addr × Obj)} {σ : St} {H : Hp} {s s' : Shared}
theorem Inv.env0 (I : Inv X pins σ H s) : Env0 X.prog X.w X.K X.mg X.base X.A X.stack s H:=
 ⟨I.ok.frames,I.ok.mod,I.bs,Nat.le_trans I.ok.bsz I.sz,I.stack,I.stkFree,I.hok,I.bare⟩
theorem Inv.after {Q : VK} {u : Value} (I : Inv X pins σ H s) (h : CE X.stack X.prog X.w H s Q u s') : EP X pins σ Q u s':=by
 obtain ⟨v,H',os,bare,un,hok,r,q⟩:=h
 obtain ⟨hh,g,d,t,os'⟩:=s'
 obtain rfl : os' = s.os:=os
 exact ⟨v,H',I.call (h':=hh) (g':=g) (d':=d) (t':=t) (ch:=[]) un hok bare (fun b z=>absurd z (by simp)),r,q⟩
end
def tCall (sp : Sp) (dvs : List V) (E : XK) (t : TA) : TE:=fun σ H Q=>t σ H fun vs H1=>sp (vs++dvs) H1 Q E
def Binds (K : PySem.W.Frag) (fd : FuncData) (ps : List Str) (ds : List Value) : Prop:=
 ∀ (s : Shared) (us : List Value),K.In s.heap->(us++ds).length = ps.length->BindsTo s fd ⟨us,[]⟩ (ps.zip (us++ds))
theorem Binds.all {K : PySem.W.Frag} {fd : FuncData} {ps : List Str} (h : ∀ us : List Value,us.length = ps.length->bindArgs fd ⟨us,[]⟩ = pure (ps.zip us)) : Binds K fd ps []:=fun s us _ hl=>by
 rw [List.append_nil] at hl ⊢
 exact .of_eq (h us hl)
def Passes (CX : CXT) (X : Cx) (E : XK) : Prop:=∀ (pins : List (Addr × Obj)) (σ : St) (H : Hp) (s : Shared) (e : Value) (s' : Shared),Inv X pins σ H s->CX X.stack H s E e s'->X.xe e s'
section
variable {X : Cx} {CX : CXT} {k : Nat} {f C : Addr} {fd : FuncData} {ps : List Str} {sp : Sp} {dvs : List V} {ds : List Value} {E : XK} {x m : Str} {p pos apos : Pos} {e o : Expr} {es : List Expr} {ta : TE} {t : TA}
theorem run_fn {pins : List (Addr × Obj)} {σ : St} {H : Hp} {s : Shared} {Q : VK} {us : List Value} {vs : List V} (F : FnOk X.prog X.w X.K X.mg X.base CX k f fd ps sp) (hr : Room k X.A) (hb : Binds X.K fd ps ds) (hd : Vals dvs ds) (hx : Passes CX X E)
  (I : Inv X pins σ H s) (r : Vals vs us) (h : sp (vs++dvs) H Q E) : wpAny (model X.prog X.w) X.A (call (.ref f) us) (EP X pins σ Q) X.xe s:=by
 have r2 : Vals (vs++dvs) (us++ds):=r.append hd
 have hl : (us++ds).length = ps.length:=by rw [<- r2.length]; exact F.len _ _ _ _ h
 refine wpAny_call (codeAny_mono (F.run X.A X.stack s H ⟨us,[]⟩ (us++ds) (vs++dvs) Q E hr I.env0 (hb s us I.kIn hl) r2 h) fun r s' hq=>?_)
 cases r with
 | error e=>exact hx pins σ H s e s' I hq
 | ok fl=>
  cases fl with
  | ret u=>exact I.after hq
  | next=>exact False.elim hq
  | brk=>exact False.elim hq
  | cont=>exact False.elim hq
theorem pe_call (F : FnOk X.prog X.w X.K X.mg X.base CX k f fd ps sp) (hr : Room k X.A) (hg : Gl X x) (hm : X.mg x = some (.ref f)) (hk : PySem.W.keepIn X.K (.ref f) = true) (hb : Binds X.K fd ps ds) (hd : Vals dvs ds) (hx : Passes CX X E)
  (ha : PA X (e::es) t) (hdb : (x == ("__debug__" : Str)) = false:=by decide) (he : starEach (e::es) X.env = (false,eval e X.env)::starEach es X.env:=by rfl) (hpl : (backTo pos (starEach es X.env)).any (·.1) = false:=by rfl) :
  PE X (.Call (.Name x p) (e::es) [] pos) (tCall sp dvs E t):=by
 intro pins s σ H Q I h
 refine wpAny_Call_Name_kw (ld_glob I hg hm ?_ hdb)
 refine PySem.W.callWith_K (h₀:=X.base) I.ok.mod.kin hk (thn (ha pos pins s σ H _ I h) fun us s1 ⟨vs,H1,I1,r,q⟩=>⟨I1.kIn,?_⟩) he hpl
 exact run_fn F hr hb hd hx I1 r q
end
section
variable {X : Cx} {CX : CXT} {k : Nat} {f C : Addr} {fd : FuncData} {ps ks : List Str} {sp : Sp} {E : XK} {x m : Str} {p pos apos kpos : Pos} {e o : Expr} {es : List Expr} {kws : List Keyword} {te ta : TE} {t tk : TA} {nm : Option Str}
variable {g : List Value->List Value->List Value} {gV : List V->List V->List V}
end
structure FnScope (N P : List Str) (sc : Scope) : Prop where
 kind : sc.kind = .function
 co : sc.isCoroutine = false
 gen : sc.isGenerator = false
 nd : N.Nodup
 pre : N.take P.length = P
 par : ∀ x ∈ P,sc.names.lookup x = some .local \/ sc.names.lookup x = some .cell
 nofree : ∀ y ∈ sc.names,y.2 ≠ .free
theorem bindL_out {kindOf : Str->Option NameKind} {x : Str} : ∀ {binds : List (Str × Value)} {m : Str->Option Value},(∀ v,(x,v) ∉ binds)->bindL kindOf binds m x = m x
 | [],_,_=>rfl
 | (n,v)::r,m,h=>by
  unfold bindL
  rw [bindL_out fun w hw=>h w (List.mem_cons_of_mem _ hw)]
  split
  ·have : x ≠ n:=by rintro rfl; exact h v List.mem_cons_self
   simp [this]
  ·rfl
theorem bindC_out {kindOf : Str->Option NameKind} {x : Str} : ∀ {binds : List (Str × Value)} {m : Str->Option Value},(∀ v,(x,v) ∉ binds)->bindC kindOf binds m x = m x
 | [],_,_=>rfl
 | (n,v)::r,m,h=>by
  unfold bindC
  rw [bindC_out fun w hw=>h w (List.mem_cons_of_mem _ hw)]
  split
  ·rfl
  ·have : x ≠ n:=by rintro rfl; exact h v List.mem_cons_self
   simp [this]
theorem bindL_get {kindOf : Str->Option NameKind} {x : Str} {v : Value} : ∀ {P : List Str} {vs : List Value} {i : Nat} {m : Str->Option Value},P.Nodup->P[i]? = some x->vs[i]? = some v->kindOf x = some .local->
  bindL kindOf (P.zip vs) m x = some v
 | [],_,_,_,_,h,_,_=>by simp at h
 | _::_,[],_,_,_,_,h,_=>by simp at h
 | p::P,w::vs,0,m,nd,h1,h2,hk=>by
  simp at h1 h2; subst h1; subst h2
  show bindL kindOf ((p,w)::P.zip vs) m p = _
  unfold bindL
  rw [bindL_out fun v hv=>(List.nodup_cons.mp nd).1 (List.of_mem_zip hv).1,if_pos hk]
  simp
 | p::P,w::vs,i + 1,m,nd,h1,h2,hk=>by
  show bindL kindOf ((p,w)::P.zip vs) m x = _
  unfold bindL
  exact bindL_get (i:=i) (List.nodup_cons.mp nd).2 (by simpa using h1) (by simpa using h2) hk
theorem bindC_get {kindOf : Str->Option NameKind} {x : Str} {v : Value} : ∀ {P : List Str} {vs : List Value} {i : Nat} {m : Str->Option Value},P.Nodup->P[i]? = some x->vs[i]? = some v->kindOf x ≠ some .local->
  bindC kindOf (P.zip vs) m x = some v
 | [],_,_,_,_,h,_,_=>by simp at h
 | _::_,[],_,_,_,_,h,_=>by simp at h
 | p::P,w::vs,0,m,nd,h1,h2,hk=>by
  simp at h1 h2; subst h1; subst h2
  show bindC kindOf ((p,w)::P.zip vs) m p = _
  unfold bindC
  rw [bindC_out fun v hv=>(List.nodup_cons.mp nd).1 (List.of_mem_zip hv).1,if_neg hk]
  simp
 | p::P,w::vs,i + 1,m,nd,h1,h2,hk=>by
  show bindC kindOf ((p,w)::P.zip vs) m x = _
  unfold bindC
  exact bindC_get (i:=i) (List.nodup_cons.mp nd).2 (by simpa using h1) (by simpa using h2) hk
def start (N : List Str) (vs : List V) : St:=vs.map some++List.replicate (N.length - vs.length) none
def cxOf (CX : CXT) (P : Program) (w : World) (K : PySem.W.Frag) (mg : Str->Option Value) (base : Heap) (N : List Str) (qual : Str) (scope : Scope) (f : Addr) (cd : Value) (A : Around) (outer : List Env) (s : Shared) (H : Hp) (E : XK) : Cx where
 prog:=P
 w:=w
 K:=K
 mg:=mg
 base:=base
 A:=A.deeper (envOfC qual scope s.heap.objs.size f cd)
 N:=N
 s₀:=s
 H₀:=H
 env:=envOfC qual scope s.heap.objs.size f cd
 outer:=outer
 stack:=envOfC qual scope s.heap.objs.size f cd::outer
 ex:=[]
 calm:=true
 fn:=fun _=>true
 pn:=[]
 xe:=fun e s'=>wpAny (model P w) (A.deeper (envOfC qual scope s.heap.objs.size f cd)) (leaving (envOfC qual scope s.heap.objs.size f cd) e) (fun _ s''=>CX outer H s E e s'') (fun e' s''=>CX outer H s E e' s'') s'
theorem cell_has {sc : Scope} {n : Nat} {x : Str} (h : sc.names.lookup x = some .cell) : ∃ c,(cellsFrom n sc.names []).lookup x = some c:=by
 have q:=PySem.W.cellsFrom_some sc.names n [] (.inl h)
 exact Option.isSome_iff_exists.mp q
theorem inv_start {CX : CXT} {P : Program} {w : World} {K : PySem.W.Frag} {mg : Str->Option Value} {base : Heap} {N ps : List Str} {qual : Str} {scope : Scope} {f : Addr} {cd : Value} {A : Around} {outer : List Env} {s s1 : Shared} {H : Hp} {E : XK} {us : List Value} {vs : List V}
  (S : FnScope N ps scope) (hd : A.handled = none) (e0 : Env0 P w K mg base A outer s H) (hl : vs.length = ps.length) (r : Vals vs us)
  (x : InCallC s s.heap.objs.size (bindL (envOfC qual scope s.heap.objs.size f cd).kindOf (ps.zip us) fun _=>none) (cellsFrom (s.heap.objs.size + 1) scope.names []) (bindC (envOfC qual scope s.heap.objs.size f cd).kindOf (ps.zip us) fun _=>none) s1) :
  Inv (cxOf CX P w K mg base N qual scope f cd A outer s H E) [] (start N vs) H s1:=by
 have hpl : ps.length <= N.length:=by have:=congrArg List.length S.pre; rw [List.length_take] at this; omega
 obtain ⟨h1,tk,rfl,hk⟩:=x.done
 have noA : ∀ b : Addr,b ∉ (cxOf CX P w K mg base N qual scope f cd A outer s H E).ex:=fun b z=>absurd (show b ∈ ([] : List Addr) from z) (by simp)
 refine ⟨⟨e0.mod,S.kind,rfl,rfl,Nat.le_refl _,fun y z c h1 h2=>?_,fun y hy=>?_,fun y c _ h=>?_,fun _=>hd,Around.frames_deeper e0.frames,.inr ⟨rfl,rfl⟩,fun b z=>absurd z (noA b),e0.bs,e0.bsz,fun b _ _=>noA b,fun b z=>absurd z (noA b),e0.funs,e0.frf⟩,
  rfl,e0.bare,Un.kept hk,⟨_,x.toInCall.ns,fun i y v h1 h2 h3=>?_⟩,fun y c h=>⟨_,x.cell y c h⟩,e0.hok.fresh (Nat.le_refl _),fun y c h=>?_,fun p hp=>absurd (show p ∈ ([] : List (Addr × Obj)) from hp) (by simp),e0.hok.kept hk,?_⟩
 ·exact name_of_addr x.apart (PySem.mem_of_lookup h1) (PySem.mem_of_lookup h2)
 ·have hy : scope.names.lookup y = some .cell \/ scope.names.lookup y = some .free:=hy
  rcases hy with hy | hy
  ·exact cell_has hy
  ·exact absurd rfl (S.nofree _ (PySem.mem_of_lookup hy))
 ·exact Nat.le_of_lt (x.above y c (PySem.mem_of_lookup h))
 ·have hi : i < vs.length:=by
   unfold start at h2
   by_cases hi : i < vs.length
   ·exact hi
   ·rw [List.getElem?_append_right (by simpa using hi)] at h2
    rw [List.getElem?_replicate] at h2
    split at h2 <;> cases h2
  have ha : vs[i]? = some v:=by
   unfold start at h2
   rw [List.getElem?_append_left (by simpa using hi),List.getElem?_map] at h2
   cases e : vs[i]? with
   | none=>rw [e] at h2; cases h2
   | some a=>rw [e] at h2; cases h2; rfl
  obtain ⟨u,hu,rv⟩:=r.get ha
  have hp : ps[i]? = some y:=by
   rw [<- S.pre,List.getElem?_take_of_lt (by omega)]; exact h1
  have ndP : ps.Nodup:=by rw [<- S.pre]; exact S.nd.sublist (List.take_sublist _ _)
  refine ⟨u,rv,?_⟩
  rcases S.par y (List.mem_of_getElem? hp) with k | k
  ·exact .inl ⟨k,bindL_get ndP hp hu k⟩
  ·obtain ⟨c,e⟩:=cell_has (n:=s.heap.objs.size + 1) k
   refine .inr ⟨.inl k,c,e,?_⟩
   have q:=x.cell y c e
   rw [bindC_get ndP hp hu (by show scope.names.lookup y ≠ _; rw [k]; decide)] at q
   exact q
 ·exact e0.hok.fresh (Nat.le_of_lt (x.above y c (PySem.mem_of_lookup h)))
 ·unfold start
  show _ = N.length
  rw [List.length_append,List.length_map,List.length_replicate]
  omega
theorem fn_of {CX : CXT} {P : Program} {w : World} {K : PySem.W.Frag} {mg : Str->Option Value} {base : Heap} {k : Nat} {f : Addr} {name qual : Str} {params : Arguments} {body : List Stmt} {scope : Scope} {dV kV doc pm cdv ct oc : Value} {an od : Option Addr}
  {osl : Array (Option Value)} {N ps : List Str} {sp : Sp} (lk : K.lookup f = some ⟨oc,od,.func (PySem.W.fnOf name qual params body scope dV kV doc pm an cdv ct),osl⟩) (hcd : PySem.W.codeIn K cdv qual = true) (S : FnScope N ps scope)
  (len : ∀ vs H Q E,sp vs H Q E->vs.length = ps.length)
  (hbody : ∀ (A : Around) (outer : List Env) (s : Shared) (H : Hp) (vs : List V) (Q : VK) (E : XK),Room k (A.deeper (envOfC qual scope s.heap.objs.size f cdv))->sp vs H Q E->
   ∃ t,PSs (cxOf CX P w K mg base N qual scope f cdv A outer s H E) body t /\ t { nx:=fun _ H'=>Q .non H',rt:=Q } (start N vs) H) :
  FnOk P w K mg base CX (k + 1) f (PySem.W.fnOf name qual params body scope dV kV doc pm an cdv ct) ps sp:=by
 refine ⟨len,fun A outer s H args us vs Q E hr e0 hb r hsp=>?_⟩
 have hl:=len _ _ _ _ hsp
 have KX : K.In s.heap:=e0.mod.kin.keeps fun b o e=>(e0.bs b o e).1
 have lim : s.heap.NoLimit:=e0.mod.nolimit.keeps fun b o e=>(e0.bs b o e).1
 have hkind : ∀ y ∈ ps.zip us,scope.names.lookup y.1 = some .local \/ (scope.names.lookup y.1 = some .cell /\ ((cellsFrom (s.heap.objs.size + 1) scope.names []).lookup y.1).isSome = true):=fun ⟨n,v⟩ hy=>by
  rcases S.par n (List.of_mem_zip hy).1 with q | q
  ·exact .inl q
  ·exact .inr ⟨q,PySem.W.cellsFrom_some _ _ _ (.inl q)⟩
 refine codeAny_call_function hr.depth (KX _ _ lk) rfl S.co S.gen rfl (PySem.W.codeRec_of KX hcd) (hb _ _ _ _ ?_)
 refine wpAny_newFunctionEnv_cells S.kind hkind fun env he s1 x=>?_
 subst he
 refine ⟨lim.keeps x.toInCall.keep,codeAny_func ?_⟩
 obtain ⟨t,ht,hq⟩:=hbody A outer s H vs Q E (hr.deeper _) hsp
 have I : Inv (cxOf CX P w K mg base N qual scope f cdv A outer s H E) [] (start N vs) H s1:=inv_start S hr.hd e0 hl r x
 refine wpAny_mono (ht [] s1 (start N vs) H _ I hq) (fun fl s' hs=>?_) fun e s' hs=>hs
 have fin : ∀ {σ' : St} {H' : Hp} {v : V} {u : Value},Inv (cxOf CX P w K mg base N qual scope f cdv A outer s H E) [] σ' H' s'->RelV v u->Q v H'->CE outer P w H s Q u s':=
  fun {σ' H' v u} J rv q=>⟨v,H',J.os,J.bare,J.base,J.hok,rv,q⟩
 cases fl with
 | ret u=>
  obtain ⟨v,σ',H',J,rv,q⟩:=hs
  exact fin J rv q
 | next=>
  obtain ⟨σ',H',J,q⟩:=hs
  exact fin (v:=V.non) (u:=Value.none) J rfl q
 | brk=>
  obtain ⟨_,_,_,q⟩:=hs
  exact False.elim q
 | cont=>
  obtain ⟨_,_,_,q⟩:=hs
  exact False.elim q
section
variable {X : Cx} {x : Str} {p pos : Pos} {e : Expr} {es : List Expr} {t : TA} {id T : String} {r : List V->Hp->VK->Prop}
def tCB (r : List V->Hp->VK->Prop) (t : TA) : TE:=fun σ H Q=>t σ H fun vs H1=>r vs H1 Q
theorem pe_callB (hc : CallR X (.builtin id) r) (hg : Gl X x) (hm : X.mg x = none) (hv : bootBuiltins x = some (.builtin id)) (ha : PA X (e::es) t) (hn : x ≠ "__name__":=by decide) (hdb : (x == ("__debug__" : Str)) = false:=by decide)
  (he : starEach (e::es) X.env = (false,eval e X.env)::starEach es X.env:=by rfl) (hpl : (backTo pos (starEach es X.env)).any (·.1) = false:=by rfl) : PE X (.Call (.Name x p) (e::es) [] pos) (tCB r t):=by
 intro pins s σ H Q I h
 refine wpAny_Call_Name_kw (ld_blt I hg hm hv ?_ hn hdb)
 exact PyProof.Rows.callWith_builtin1 (thn (ha pos pins s σ H _ I h) fun us s1 ⟨vs,H1,I1,r1,q1⟩=>hc pins s1 σ H1 vs us Q I1 r1 q1) he hpl
theorem pe_callTy (hc : CallR X (.type T) r) (hg : Gl X x) (hm : X.mg x = none) (hv : bootBuiltins x = some (.type T)) (ha : PA X (e::es) t) (hn : x ≠ "__name__":=by decide) (hdb : (x == ("__debug__" : Str)) = false:=by decide)
  (he : starEach (e::es) X.env = (false,eval e X.env)::starEach es X.env:=by rfl) (hpl : (backTo pos (starEach es X.env)).any (·.1) = false:=by rfl) : PE X (.Call (.Name x p) (e::es) [] pos) (tCB r t):=by
 intro pins s σ H Q I h
 refine wpAny_Call_Name_kw (ld_blt I hg hm hv ?_ hn hdb)
 exact PyProof.Rows.callWith_type1 (thn (ha pos pins s σ H _ I h) fun us s1 ⟨vs,H1,I1,r1,q1⟩=>hc pins s1 σ H1 vs us Q I1 r1 q1) he hpl
end
end L2
namespace HT
open PySem PyProof.Rows
section
open PySem.SeqAt
open PySem.AutoSeq1 (wpAny_loadPart')
open PySem.MeetsSeq PySem.MeetsSeq2 PySem.MeetsSeq3
end
section
variable {prog : Program} {w : World} {A : Around} {E : Value->Shared->Prop} {s : Shared}
theorem cat_tup {t b : Addr} {vs ws : List Value} {Q : Value->Shared->Prop} (ht : IsTup s.heap t vs.toArray) (hb : IsTup s.heap b ws.toArray) (hv : vs ≠ [])
  (h1 : ws = []->Q (.ref t) s) (h2 : ws ≠ []->Q (.ref s.heap.objs.size) { s with heap:=s.heap.push { cls:=.type "tuple",data:=.seq (vs++ws).toArray } })
  (hsz : vs.length + ws.length <= sizeLine) : wpAny (model prog w) A (binaryOp .Add (.ref t) (.ref b)) Q E s:=by
 obtain ⟨⟨cls,dd,data,sl⟩,ho,hc,n,hd⟩:=id ht
 obtain ⟨⟨cls2,dd2,data2,sl2⟩,ho2,hc2,n2,hd2⟩:=id hb
 simp only at hc hd hc2 hd2
 subst hc hd hc2 hd2
 have e : vs.toArray++ws.toArray = (vs++ws).toArray:=by simp
 by_cases hw : ws = []
 ·exact concat_meets ⟨_,ho,rfl⟩ ⟨_,ho2,rfl⟩ noFill_tuple_add seq_tuple_add PySem.F.slot_tuple_add PySem.F.entry_tuple_add (PySem.F.args_tuple_add_2 _ _)
   (tuple_addW1 t b vs.toArray ws.toArray n n2 dd dd2 sl sl2 (by simpa using hv) (by simp [hw])) ⟨ho,ho2,h1 hw⟩
 ·refine concat_meets ⟨_,ho,rfl⟩ ⟨_,ho2,rfl⟩ noFill_tuple_add seq_tuple_add PySem.F.slot_tuple_add PySem.F.entry_tuple_add (PySem.F.args_tuple_add_2 _ _)
   (tuple_addW2 t b vs.toArray ws.toArray n n2 dd dd2 sl sl2 (by simpa using hv) (by simpa using hw) (by rw [List.size_toArray,List.size_toArray]; exact hsz)) ⟨ho,ho2,?_⟩
  rw [e]
  exact h2 hw
def sIx (n d : Nat) : Option Int->Nat
 | none=>d
 | some v=>if v < 0 then (v + (n : Int)).toNat else min v.toNat n
theorem sIx_le (n d : Nat) (hd : d <= n) (o : Option Int) : sIx n d o <= n:=by
 cases o with
 | none=>exact hd
 | some v=>
  show (if v < 0 then (v + (n : Int)).toNat else min v.toNat n) <= n
  by_cases hv : v < 0
  ·rw [if_pos hv]; omega
  ·rw [if_neg hv]; exact Nat.min_le_right _ _
theorem clip_eq (v : Int) (n d : Nat) : (if v < 0 then max (v + (n : Int)) 0 else min v (n : Int)) = ((sIx n d (some v) : Nat) : Int):=by
 show (if v < 0 then max (v + (n : Int)) 0 else min v (n : Int)) = (((if v < 0 then (v + (n : Int)).toNat else min v.toNat n) : Nat) : Int)
 by_cases hv : v < 0
 ·simp only [if_pos hv]; omega
 ·simp only [if_neg hv]; omega
theorem adjust_gen (lo hi : Option Int) (n : Nat) : Builtin.Slice.sliceAdjust lo hi 1 (n : Int) = (((sIx n 0 lo : Nat) : Int),((sIx n n hi : Nat) : Int)):=by
 have h1 : ¬ ((1 : Int) < 0):=by omega
 unfold Builtin.Slice.sliceAdjust
 simp only [h1,if_false]
 refine Prod.ext ?_ ?_
 ·cases lo with
  | none=>rfl
  | some v=>exact clip_eq v n 0
 ·cases hi with
  | none=>rfl
  | some v=>exact clip_eq v n n
theorem places_gen (i j : Nat) : Builtin.Slice.slicePlaces (i : Int) (j : Int) 1 = j - i:=by
 unfold Builtin.Slice.slicePlaces
 have h1 : (1 : Int) > 0:=by omega
 simp only [h1,if_true,Int.ediv_one]
 split <;> omega
theorem slicePart_ {v : Value} {o : Option Int} {Q : Option Int->Shared->Prop} (p : IsPart v o) (h : Q o s) : wpAny (model prog w) A (Builtin.Slice.slicePartIndex v) Q E s:=by
 cases p with
 | none=>exact slicePart_none h
 | int i t=>exact slicePart_int h
theorem sliceApplied_gen {sl : Addr} {vl vu : Value} {lo hi : Option Int} {n : Nat} {Q : Int × Int × Nat->Shared->Prop} (hs : s.heap.IsSliceOf sl vl vu .none) (pl : IsPart vl lo) (pu : IsPart vu hi)
  (h : Q (((sIx n 0 lo : Nat) : Int),1,sIx n n hi - sIx n 0 lo) s) : wpAny (model prog w) A (Builtin.Slice.sliceApplied (.ref sl) (pure (n : Int))) Q E s:=by
 obtain ⟨os,hos,hcs,hds⟩:=id hs
 unfold Builtin.Slice.sliceApplied Builtin.Slice.sliceFields
 refine wpAny_bind (wpAny_bind (wpAny_field hos hds (x:=vl) rfl (wpAny_bind (wpAny_field hos hds (x:=vu) rfl (wpAny_bind (wpAny_field hos hds (x:=.none) rfl (wpAny_pure ?_)))))))
 refine wpAny_bind (slicePart_none ?_)
 show wpAny _ _ (if ((1 : Int) == 0) = true then _ else _) _ _ s
 rw [if_neg (by decide)]
 refine wpAny_bind (slicePart_ pl (wpAny_bind (slicePart_ pu (wpAny_bind (wpAny_pure ?_)))))
 show wpAny _ _ (match Builtin.Slice.sliceAdjust lo hi 1 (n : Int) with | (lo,hi)=>pure (lo,(1 : Int),Builtin.Slice.slicePlaces lo hi 1)) _ _ s
 rw [adjust_gen lo hi n]
 show wpAny _ _ (pure (((sIx n 0 lo : Nat) : Int),(1 : Int),Builtin.Slice.slicePlaces ((sIx n 0 lo : Nat) : Int) ((sIx n n hi : Nat) : Int) 1)) _ _ s
 rw [places_gen]
 exact wpAny_pure h
theorem pick_gen (xs : Array Value) (i k : Nat) : ((List.range k).filterMap fun (m : Nat)=>xs[((i : Int) + (m : Int) * 1).toNat]?).toArray = ((xs.toList.drop i).take k).toArray:=by
 have e : (fun (m : Nat)=>xs[((i : Int) + (m : Int) * 1).toNat]?) = fun m=>xs[i + m]?:=by
  funext m
  have : ((i : Int) + (m : Int) * 1).toNat = i + m:=by omega
  rw [this]
 rw [e]
 have:=pick_run xs i k
 rw [List.filterMap_map] at this
 have e2 : ((fun x=>xs[x]?) ∘ fun x=>i + x) = fun m=>xs[i + m]?:=rfl
 rw [e2] at this
 rw [this]
theorem getItem_tuple_cut {t sl : Addr} {items : Array Value} {vl vu : Value} {lo hi : Option Int} {Q : Value->Shared->Prop} (ht : IsTup s.heap t items) (hs : s.heap.IsSliceOf sl vl vu .none) (pl : IsPart vl lo) (pu : IsPart vu hi)
  (hw : ¬ (sIx items.size 0 lo = 0 /\ sIx items.size items.size hi = items.size))
  (h : Q (.ref s.heap.objs.size) { s with heap:=s.heap.push { cls:=.type "tuple",data:=.seq ((items.toList.drop (sIx items.size 0 lo)).take (sIx items.size items.size hi - sIx items.size 0 lo)).toArray } })
  (hsz : items.size <= sizeLine) : wpAny (model prog w) A (getItem (.ref t) (.ref sl)) Q E s:=by
 have htake : sizeOk (.seq ((items.toList.drop (sIx items.size 0 lo)).take (sIx items.size items.size hi - sIx items.size 0 lo)).toArray):=by
  show ((items.toList.drop (sIx items.size 0 lo)).take (sIx items.size items.size hi - sIx items.size 0 lo)).toArray.size <= sizeLine
  rw [List.size_toArray,List.length_take,List.length_drop,Array.length_toList]
  omega
 have hj : sIx items.size items.size hi <= items.size:=sIx_le _ _ (Nat.le_refl _) hi
 obtain ⟨os,hos,hcs,hds⟩:=id hs
 have hTs : s.TypeIs (.ref sl) "slice":=⟨os,hos,hcs⟩
 unfold getItem
 try with_reducible refine wpAny_holding ?_
 first | refine wpAny_bind (wpAny_pure ?_) | skip
 refine wpAny_bind (wpAny_sequenceKey ht.typeIs (by decide) ?_)
 refine wpAny_bind (wpAny_callSpecial?_slot (name:=Str.ofString "__getitem__") ht.typeIs PyProof.Rows.slot_tuple_getitem
  (wpAny_call_entry PyProof.Rows.slot_tuple_getitem ht.typeIs entry_tuple_getitem ?_ (args_tuple_getitem _ _)))
 show wpAny _ _ (Builtin.Tuple.tupleItemsOf (.ref t) >>= _) _ _ s
 refine wpAny_bind (tupleItemsOf_ ht ?_)
 refine wpAny_bind (wpAny_typeOf hTs ?_)
 rw [if_pos (by decide)]
 refine wpAny_bind (sliceApplied_gen hs pl pu ?_)
 have hno : ¬ ((((sIx items.size 0 lo : Nat) : Int) == 0 && (1 : Int) == 1 && (sIx items.size items.size hi - sIx items.size 0 lo) == items.size) = true):=by
  intro q
  rw [Bool.and_eq_true,Bool.and_eq_true] at q
  have q1 : ((sIx items.size 0 lo : Nat) : Int) = 0:=eq_of_beq q.1.1
  have q2 : sIx items.size items.size hi - sIx items.size 0 lo = items.size:=eq_of_beq q.2
  exact hw ⟨by omega,by omega⟩
 show wpAny _ _ (if (((sIx items.size 0 lo : Nat) : Int) == 0 && (1 : Int) == 1 && (sIx items.size items.size hi - sIx items.size 0 lo) == items.size) = true then _ else _) _ _ s
 rw [if_neg hno,pick_gen]
 first
  | exact wpAny_bind (m:=Builtin.Tuple.tupleExact _) (wpAny_newObj_type (wpAny_pure ⟨_,rfl,wpAny_pure h⟩) htake)
  | exact wpAny_bind (m:=Builtin.Tuple.tupleExact _) (wpAny_newObj_type (wpAny_bind (wpAny_pure (wpAny_pure ⟨_,rfl,wpAny_pure h⟩))) htake)
  | exact wpAny_bind (wpAny_bind (m:=Builtin.Tuple.tupleExact _) (wpAny_newObj_type (wpAny_pure (wpAny_pure ⟨_,rfl,wpAny_pure h⟩)) htake))
  | exact wpAny_bind (wpAny_bind (m:=Builtin.Tuple.tupleExact _) (wpAny_newObj_type (wpAny_pure ⟨_,rfl,wpAny_pure h⟩) htake))
end
end HT
namespace L2
open PySem PySem.Spec PyProof.Rows
abbrev TO:=St->Hp->(Option Int->Hp->Prop)->Prop
def PO (X : Cx) (e : Option Expr) (t : TO) : Prop:=
 ∀ (pins : List (Addr × Obj)) (s : Shared) (σ : St) (H : Hp) (Q : Option Int->Hp->Prop),Inv X pins σ H s->t σ H Q->
  wpAny (model X.prog X.w) X.A (evalPart e X.env) (fun u s'=>∃ o H',Inv X pins σ H' s' /\ IsPart u o /\ Q o H') X.xe s
def tNoPart : TO:=fun _ H Q=>Q none H
def tPart (t : TE) : TO:=fun σ H Q=>t σ H fun x H1=>∃ i,x = .int i /\ Q (some i) H1
section
variable {X : Cx} {e : Expr} {te : TE} {lo hi : Option Expr} {tl th : TO} {pos p2 : Pos}
theorem po_none : PO X none tNoPart:=by
 intro pins s σ H Q I h
 rw [evalPart_none]
 exact wpAny_pure ⟨none,H,I,.none,h⟩
theorem po_some (h : PE X e te) : PO X (some e) (tPart te):=by
 intro pins s σ H Q I hw
 rw [evalPart_some]
 refine thn (h pins s σ H _ I hw) fun u s1 ⟨x,H1,I1,r1,q1⟩=>?_
 obtain ⟨i,rfl,q⟩:=q1
 obtain ⟨t,rfl⟩:=r1
 exact ⟨some i,H1,I1,.int i t,q⟩
def SlR (X : Cx) (r : V->Option Int->Option Int->Hp->VK->Prop) : Prop:=
 ∀ (pins : List (Addr × Obj)) (s : Shared) (σ : St) (H : Hp) (x : V) (v vl vu : Value) (lo hi : Option Int) (sl : Addr) (Q : VK),Inv X pins σ H s->RelV x v->s.heap.IsSliceOf sl vl vu .none->IsPart vl lo->IsPart vu hi->r x lo hi H Q->
  ∃ T id,typeLookup (.type T) "__getitem__" = pure (some (.builtin id)) /\ s.TypeIs v T /\ wpAny (model X.prog X.w) X.A (getItem v (.ref sl)) (EP X pins σ Q) X.xe s
theorem SlR.or {r r' : V->Option Int->Option Int->Hp->VK->Prop} (h : SlR X r) (h' : SlR X r') : SlR X (fun x lo hi H Q=>r x lo hi H Q \/ r' x lo hi H Q):=by
 intro pins s σ H x v vl vu lo hi sl Q I rx hs pl pu q
 rcases q with q | q
 ·exact h pins s σ H x v vl vu lo hi sl Q I rx hs pl pu q
 ·exact h' pins s σ H x v vl vu lo hi sl Q I rx hs pl pu q
def tSl (r : V->Option Int->Option Int->Hp->VK->Prop) (te : TE) (tl th : TO) : TE:=fun σ H Q=>te σ H fun x H1=>tl σ H1 fun l H2=>th σ H2 fun u H3=>r x l u H3 Q
theorem pe_slice {r : V->Option Int->Option Int->Hp->VK->Prop} (hr : SlR X r) (he : PE X e te) (hl : PO X lo tl) (hu : PO X hi th) : PE X (.Subscript e (.Slice lo hi none p2) pos) (tSl r te tl th):=by
 intro pins s σ H Q I h
 refine Subscript_ (thn (he pins s σ H _ I h) fun v s1 ⟨x,H1,I1,r1,q1⟩=>?_)
 refine wpAny_Slice (thn (hl pins s1 σ H1 _ I1 q1) fun vl s2 ⟨l,H2,I2,pl,q2⟩=>thn (hu pins s2 σ H2 _ I2 q2) fun vu s3 ⟨u,H3,I3,pu,q3⟩=>?_)
 rw [evalPart_none]
 refine wpAny_pure ?_
 have I4 : Inv X pins σ H3 { s3 with heap:=s3.heap.push { cls:=.type "slice",data:=.fields #[vl,vu,.none] } }:=I3.kept (t':=s3.toks) fun b ob q=>Heap.get?_push_of_some _ q
 obtain ⟨T,id,hT,ht,hg⟩:=hr pins { s3 with heap:=s3.heap.push { cls:=.type "slice",data:=.fields #[vl,vu,.none] } } σ H3 x v vl vu l u s3.heap.objs.size Q I4 r1 (Heap.IsSliceOf.new ..) pl pu q3
 show wpAny (model X.prog X.w) X.A (subscriptTail e (.Slice lo hi none p2) v (.ref s3.heap.objs.size)) (EP X pins σ Q) X.xe { s3 with heap:=s3.heap.push { cls:=.type "slice",data:=.fields #[vl,vu,.none] } }
 exact tail_any (ops:=[.ref s3.heap.objs.size,v]) ht hT hg (by with_unfolding_all rfl)
def cutV (xs : List V) (lo hi : Option Int) : List V:=(xs.drop (HT.sIx xs.length 0 lo)).take (HT.sIx xs.length xs.length hi - HT.sIx xs.length 0 lo)
theorem cutV_length (xs : List V) (lo hi : Option Int) : (cutV xs lo hi).length <= xs.length:=by
 unfold cutV
 rw [List.length_take,List.length_drop]
 omega
def rSlT (K : PySem.W.Frag) : V->Option Int->Option Int->Hp->VK->Prop:=fun x lo hi H Q=>∃ a xs,x = .ref a /\ SqT K H a xs /\
 ¬ (HT.sIx xs.length 0 lo = 0 /\ HT.sIx xs.length xs.length hi = xs.length) /\ ∀ p,H p = none->Q (.ref p) (upd H p (.tup (cutV xs lo hi)))
theorem sl_tup : SlR X (rSlT X.K):=by
 intro pins s σ H x v vl vu lo hi sl Q I rx hs pl pu h
 obtain ⟨a,xs,rfl,hx,hw,q⟩:=h
 cases rx
 obtain ⟨its,r,ht,hz⟩:=I.tuple hx
 have hlen : its.toArray.size = xs.length:=by rw [List.size_toArray]; exact r.length.symm
 refine ⟨"tuple",_,PyProof.Rows.slot_tuple_getitem.lookup,ht.typeIs,?_⟩
 refine HT.getItem_tuple_cut ht hs pl pu (by rw [hlen]; exact hw) ?_ (by rw [hlen]; exact hz)
 rw [hlen]
 refine ⟨.ref s.heap.objs.size,_,I.laid (t':=s.toks) (o:=.tup (cutV xs lo hi)) (fun b ob q=>Heap.get?_push_of_some _ q) (Nat.le_refl _) ?_,rfl,q _ (I.hok.fresh (Nat.le_refl _))⟩
 exact ⟨Nat.le_trans (cutV_length xs lo hi) hz,_,(r.drop (HT.sIx xs.length 0 lo)).take (HT.sIx xs.length xs.length hi - HT.sIx xs.length 0 lo),IsTup.new _ _⟩
def rCatT (K : PySem.W.Frag) : R2:=fun x y H Q=>∃ a b xs ys,x = .ref a /\ y = .ref b /\ SqT K H a xs /\ SqT K H b ys /\ xs ≠ [] /\ xs.length + ys.length <= sizeLine /\
 (ys = []->Q (.ref a) H) /\ (ys ≠ []->∀ p,H p = none->Q (.ref p) (upd H p (.tup (xs++ys))))
theorem Vals.nil_iff {xs : List V} {us : List Value} (r : Vals xs us) : us = [] ↔ xs = []:=by
 cases r with
 | nil=>simp
 | cons _ _=>simp
theorem op_catT : OpR X (binaryOp .Add) (rCatT X.K):=by
 intro pins s σ H x y v u Q I rx ry h
 obtain ⟨a,b,xs,ys,rfl,rfl,ha,hb,hx,hz,q1,q2⟩:=h
 cases rx
 cases ry
 obtain ⟨its,r1,p1,_⟩:=I.tuple ha
 obtain ⟨its2,r2,p2,_⟩:=I.tuple hb
 refine HT.cat_tup p1 p2 (fun z=>hx (r1.nil_iff.mp z)) (fun z=>⟨.ref a,H,I,rfl,q1 (r2.nil_iff.mp z)⟩) (fun z=>?_) (by rw [<- r1.length,<- r2.length]; exact hz)
 refine ⟨.ref s.heap.objs.size,_,I.laid (t':=s.toks) (o:=.tup (xs++ys)) (fun b ob q=>Heap.get?_push_of_some _ q) (Nat.le_refl _) ?_,rfl,q2 (fun w=>z (r2.nil_iff.mpr w)) _ (I.hok.fresh (Nat.le_refl _))⟩
 exact ⟨by rw [List.length_append]; exact hz,_,r1.append r2,IsTup.new _ _⟩
end
def ixN (n : Nat) (i : Int) : Option Nat:=if 0 <= i then (if i < n then some i.toNat else none) else if -(n : Int) <= i then some (i + n).toNat else none
def atI {α : Type} (xs : List α) (i : Int) : Option α:=(ixN xs.length i).bind fun j=>xs[j]?
theorem ixN_seq {n : Nat} {i : Int} {j : Nat} (h : ixN n i = some j) : seqIndex? i n = some j /\ j < n /\ -(n : Int) <= i /\ i < n:=by
 unfold ixN at h
 by_cases h0 : 0 <= i
 ·rw [if_pos h0] at h
  by_cases h1 : i < n
  ·rw [if_pos h1] at h
   have e : i.toNat = j:=Option.some.inj h
   exact ⟨by rw [seqIndex_of h0 h1,e],by omega,by omega,h1⟩
  ·rw [if_neg h1] at h; cases h
 ·rw [if_neg h0] at h
  by_cases h1 : -(n : Int) <= i
  ·rw [if_pos h1] at h
   have e : (i + n).toNat = j:=Option.some.inj h
   exact ⟨by rw [seqIndex_neg (by omega) h1,e],by omega,h1,by omega⟩
  ·rw [if_neg h1] at h; cases h
theorem atI_get {α : Type} {xs : List α} {i : Int} {v : α} (h : atI xs i = some v) : ∃ j,seqIndex? i xs.length = some j /\ xs[j]? = some v /\ j < xs.length /\ -(xs.length : Int) <= i /\ i < xs.length:=by
 unfold atI at h
 cases e : ixN xs.length i with
 | none=>rw [e] at h; cases h
 | some j=>
  rw [e] at h
  obtain ⟨h1,h2,h3,h4⟩:=ixN_seq e
  exact ⟨j,h1,h,h2,h3,h4⟩
theorem atI_nat {α : Type} {xs : List α} {j : Nat} {v : α} (h : xs[j]? = some v) : atI xs (j : Int) = some v:=by
 have hj : j < xs.length:=(List.getElem?_eq_some_iff.mp h).1
 have e : ixN xs.length (j : Int) = some j:=by
  unfold ixN
  rw [if_pos (by omega),if_pos (by omega)]; simp
 unfold atI; rw [e]; exact h
def PlainIx (b : Expr) : Prop:=∀ o i,subscripted b false o i = operate [o,i] (getItem o i)
def IxR (X : Cx) (r : R2) : Prop:=
 ∀ (value slice : Expr) (pins : List (Addr × Obj)) (s : Shared) (σ : St) (H : Hp) (x y : V) (v u : Value) (Q : VK),Inv X pins σ H s->RelV x v->RelV y u->r x y H Q->
  subscripted slice false v u = operate [v,u] (getItem v u)->wpAny (model X.prog X.w) X.A (subscriptTail value slice v u) (EP X pins σ Q) X.xe s
def MtR (X : Cx) (id : String) (r : V->List V->Hp->VK->Prop) : Prop:=
 ∀ (pins : List (Addr × Obj)) (s : Shared) (σ : St) (H : Hp) (x : V) (xs : List V) (v : Value) (us : List Value) (Q : VK),Inv X pins σ H s->RelV x v->Vals xs us->r x xs H Q->
  wpAny (model X.prog X.w) X.A (call (.builtin id) (v::us)) (EP X pins σ Q) X.xe s
section
variable {X : Cx} {a b : Expr} {ta tb : TE} {pos : Pos}
theorem IxR.or {r r' : R2} (h : IxR X r) (h' : IxR X r') : IxR X (fun x y H Q=>r x y H Q \/ r' x y H Q):=by
 intro value slice pins s σ H x y v u Q I rx ry q hs
 rcases q with q | q
 ·exact h value slice pins s σ H x y v u Q I rx ry q hs
 ·exact h' value slice pins s σ H x y v u Q I rx ry q hs
theorem pe_ix {r : R2} (hr : IxR X r) (ha : PE X a ta) (hb : PE X b tb) (hs : PlainIx b) : PE X (.Subscript a b pos) (tOp r ta tb):=by
 intro pins s σ H Q I h
 exact Subscript_ (binT ha hb I h fun v u s2 x y H2 I2 rx ry q=>hr a b pins s2 σ H2 x y v u Q I2 rx ry q (hs _ _))
def rIxL (K : PySem.W.Frag) : R2:=fun x y H Q=>∃ p xs i v,x = .ref p /\ y = .int i /\ SqL K H p xs /\ atI xs i = some v /\ Q v H
def rIxT (K : PySem.W.Frag) : R2:=fun x y H Q=>∃ p xs i v,x = .ref p /\ y = .int i /\ SqT K H p xs /\ atI xs i = some v /\ Q v H
def rIxS : R2:=fun x y H Q=>∃ z i c,x = .str z /\ y = .int i /\ z.length <= sizeLine /\ atI z.cps.toList i = some c /\ Q (.str ⟨#[c]⟩) H
theorem ix_list : IxR X (rIxL X.K):=by
 intro value slice pins s σ H x y v u Q I rx ry h hs
 obtain ⟨p,xs,i,z,rfl,rfl,hq,he,q⟩:=h
 cases rx
 obtain ⟨t,rfl⟩:=ry
 obtain ⟨its,r,pl,hz⟩:=I.list hq
 obtain ⟨j,h1,h2,h3,h4,h5⟩:=atI_get he
 obtain ⟨w,ew,rw'⟩:=r.get h2
 have hl:=r.length
 have hn:=line63
 have fin : EP X pins σ Q w s:=⟨z,H,I,rw',q⟩
 by_cases h0 : 0 <= i
 ·have hj : i.toNat = j:=by
   rw [seqIndex_of h0 h5] at h1
   exact Option.some.inj h1
  exact item_listR pl.isList h0 (by omega) (by rw [hj]; simpa using ew) fin hs
 ·have hj : (i + (its.toArray.size : Int)).toNat = j:=by
   rw [seqIndex_neg (by omega) h4] at h1
   rw [List.size_toArray,<- hl]
   exact Option.some.inj h1
  exact subscriptTail_builtinR (x:=w) pl.isList.typeIs slot_list_getitem.lookup
   (wpAny_getItem_list_neg (Q:=fun r s'=>r = w /\ EP X pins σ Q r s') pl.isList (by omega) (by rw [List.size_toArray] <;> omega) (by omega) (by rw [hj]; simpa using ew) ⟨rfl,fin⟩) hs
theorem ix_tup : IxR X (rIxT X.K):=by
 intro value slice pins s σ H x y v u Q I rx ry h hs
 obtain ⟨p,xs,i,z,rfl,rfl,hq,he,q⟩:=h
 cases rx
 obtain ⟨t,rfl⟩:=ry
 obtain ⟨its,r,pl,hz⟩:=I.tuple hq
 obtain ⟨j,h1,h2,h3,h4,h5⟩:=atI_get he
 obtain ⟨w,ew,rw'⟩:=r.get h2
 have hl:=r.length
 have hn:=line63
 have fin : EP X pins σ Q w s:=⟨z,H,I,rw',q⟩
 exact subscriptTail_builtinR (x:=w) pl.typeIs slot_tuple_getitem.lookup
  (getItem_tuple (j:=j) (Q:=fun r s'=>r = w /\ EP X pins σ Q r s') pl (by omega) (by omega) (by rw [List.size_toArray,<- hl]; exact h1) (by simpa using ew) ⟨rfl,fin⟩) hs
theorem ix_str : IxR X rIxS:=by
 intro value slice pins s σ H x y v u Q I rx ry h hs
 obtain ⟨z,i,c,rfl,rfl,hz,he,q⟩:=h
 obtain ⟨t,rfl⟩:=rx
 obtain ⟨t',rfl⟩:=ry
 obtain ⟨j,h1,h2,h3,h4,h5⟩:=atI_get he
 have hl : z.cps.toList.length = z.length:=by simp [Str.length]
 rw [hl] at h1 h4 h5
 have hn:=line63
 exact tail_any (typeIs_str s z t) slot_str_getitem.lookup (getItem_str (c:=c) (by
  have e1 : decide (i < -(2 ^ 63 : Int)) = false:=decide_eq_false (by omega)
  have e2 : decide (i ≥ 2 ^ 63) = false:=decide_eq_false (by omega)
  rw [e1,e2,Bool.or_false]) (by rw [h1]; simpa using h2) ⟨.str ⟨#[c]⟩,H,I.tok _,⟨_,rfl⟩,q⟩) hs
def rIx (K : PySem.W.Frag) : R2:=fun x y H Q=>rIxL K x y H Q \/ rIxT K x y H Q \/ rIxS x y H Q
theorem ix_seq : IxR X (rIx X.K):=ix_list.or (ix_tup.or ix_str)
theorem slice_bounds (lo hi : Option Int) (n : Nat) : (sliceBounds lo hi none n).1 = ((HT.sIx n 0 lo : Nat) : Int) /\ (sliceBounds lo hi none n).2.1 = ((HT.sIx n n hi : Nat) : Int) /\ (sliceBounds lo hi none n).2.2 = 1:=by
 refine ⟨?_,?_,rfl⟩
 ·cases lo with
  | none=>simp [sliceBounds,HT.sIx]
  | some i=>
   simp only [sliceBounds,HT.sIx,Option.getD_none,show (1 : Int) > 0 by decide,if_true]
   by_cases h : i < 0
   ·simp only [h,if_true] <;> omega
   ·simp only [h,if_false] <;> omega
 ·cases hi with
  | none=>simp [sliceBounds,HT.sIx]
  | some i=>
   simp only [sliceBounds,HT.sIx,Option.getD_none,show (1 : Int) > 0 by decide,if_true]
   by_cases h : i < 0
   ·simp only [h,if_true] <;> omega
   ·simp only [h,if_false] <;> omega
theorem slicePick_cut (its : List Value) (lo hi : Option Int) : slicePick its.toArray lo hi none = ((its.drop (HT.sIx its.length 0 lo)).take (HT.sIx its.length its.length hi - HT.sIx its.length 0 lo)).toArray:=by
 obtain ⟨h1,h2,h3⟩:=slice_bounds lo hi its.toArray.size
 unfold slicePick
 rw [h1,h2,h3]
 simp only [sliceRange_one,pick_run,List.size_toArray] <;> rfl
def rSlL (K : PySem.W.Frag) : V->Option Int->Option Int->Hp->VK->Prop:=fun x lo hi H Q=>∃ a xs,x = .ref a /\ SqL K H a xs /\ ∀ p,H p = none->Q (.ref p) (upd H p (.lst (cutV xs lo hi)))
theorem sl_list : SlR X (rSlL X.K):=by
 intro pins s σ H x v vl vu lo hi sl Q I rx hs pl pu h
 obtain ⟨a,xs,rfl,hx,q⟩:=h
 cases rx
 obtain ⟨its,r,ht,hz⟩:=I.list hx
 have hlen:=r.length
 refine ⟨"list",_,slot_list_getitem.lookup,ht.isList.typeIs,?_⟩
 refine wpAny_getItem_list_slice ht.isList hs pl pu .none (by simp) ?_ (by rw [List.size_toArray] <;> omega)
 rw [slicePick_cut,<- hlen]
 refine ⟨.ref s.heap.objs.size,_,I.laid (t':=s.toks) (o:=.lst (cutV xs lo hi)) (fun b ob q=>Heap.get?_push_of_some _ q) (Nat.le_refl _) ?_,rfl,q _ (I.hok.fresh (Nat.le_refl _))⟩
 exact ⟨Nat.le_trans (cutV_length xs lo hi) hz,_,0,(r.drop (HT.sIx xs.length 0 lo)).take (HT.sIx xs.length xs.length hi - HT.sIx xs.length 0 lo),Heap.get?_push_size _ rfl⟩
def flatV : V->Bool
 | .non=>true
 | .bl _=>true
 | .int _=>true
 | .str _=>true
 | _=>false
def eqV : V->V->Bool
 | .non,.non=>true
 | .bl a,.bl b=>a == b
 | .bl a,.int b=>(if a then 1 else 0) == b
 | .int a,.bl b=>a == (if b then 1 else 0)
 | .int a,.int b=>a == b
 | .str a,.str b=>a == b
 | _,_=>false
theorem eqAt_V {A : Around} {s : Shared} {y x : V} {u v : Value} (ry : RelV y u) (rx : RelV x v) (fy : flatV y = true) (fx : flatV x = true) : SeqAt.EqAt A s u v (eqV y x):=by
 cases y with
 | non=>
  cases ry
  cases x with
  | non=>cases rx; exact SeqAt.EqAt.same _
  | bl b=>cases rx; exact SeqAt.EqAt.none_bool b
  | int b=>obtain ⟨t,rfl⟩:=rx; exact SeqAt.EqAt.none_int b t
  | str b=>obtain ⟨t,rfl⟩:=rx; exact SeqAt.EqAt.none_str b t
  | _=>exact absurd (show false = true from fx) Bool.false_ne_true
 | bl a=>
  cases ry
  cases x with
  | non=>cases rx; exact SeqAt.EqAt.bool_none a
  | bl b=>cases rx; exact SeqAt.EqAt.bool_bool a b
  | int b=>obtain ⟨t,rfl⟩:=rx; exact SeqAt.EqAt.bool_int a b t
  | str b=>obtain ⟨t,rfl⟩:=rx; exact SeqAt.EqAt.bool_str a b t
  | _=>exact absurd (show false = true from fx) Bool.false_ne_true
 | int a=>
  obtain ⟨t',rfl⟩:=ry
  cases x with
  | non=>cases rx; exact SeqAt.EqAt.int_none a t'
  | bl b=>cases rx; exact SeqAt.EqAt.int_bool a t' b
  | int b=>obtain ⟨t,rfl⟩:=rx; exact SeqAt.EqAt.int_int a t' b t
  | str b=>obtain ⟨t,rfl⟩:=rx; exact SeqAt.EqAt.int_str a t' b t
  | _=>exact absurd (show false = true from fx) Bool.false_ne_true
 | str a=>
  obtain ⟨t',rfl⟩:=ry
  cases x with
  | non=>cases rx; exact SeqAt.EqAt.str_none a t'
  | bl b=>cases rx; exact SeqAt.EqAt.str_bool a t' b
  | int b=>obtain ⟨t,rfl⟩:=rx; exact SeqAt.EqAt.str_int a t' b t
  | str b=>obtain ⟨t,rfl⟩:=rx; exact SeqAt.EqAt.str_str a t' b t
  | _=>exact absurd (show false = true from fx) Bool.false_ne_true
 | _=>exact absurd (show false = true from fy) Bool.false_ne_true
def eqU (x : V) (u : Value) : Bool:=match u with
 | .none=>eqV .non x
 | .bool b=>eqV (.bl b) x
 | .int i _=>eqV (.int i) x
 | .str z _=>eqV (.str z) x
 | _=>false
theorem eqU_of {x y : V} {u : Value} (r : RelV y u) (f : flatV y = true) : eqU x u = eqV y x:=by
 cases y with
 | non=>cases r; rfl
 | bl b=>cases r; rfl
 | int i=>obtain ⟨t,rfl⟩:=r; rfl
 | str z=>obtain ⟨t,rfl⟩:=r; rfl
 | _=>exact absurd (show false = true from f) Bool.false_ne_true
theorem any_eqU {x : V} : ∀ {xs : List V} {us : List Value},Vals xs us->xs.all flatV = true->us.any (eqU x) = xs.any fun y=>eqV y x
 | _,_,.nil,_=>rfl
 | y::xs,u::us,.cons r t,f=>by
  rw [List.all_cons,Bool.and_eq_true] at f
  rw [List.any_cons,List.any_cons,eqU_of r f.1,any_eqU t f.2]
theorem mem_eqAt {A : Around} {s : Shared} {x : V} {v : Value} (rx : RelV x v) (fx : flatV x = true) : ∀ {xs : List V} {us : List Value},Vals xs us->xs.all flatV = true->∀ u ∈ us,SeqAt.EqAt A s u v (eqU x u)
 | _,_,.nil,_=>fun u hu=>by cases hu
 | y::xs,u::us,.cons r t,f=>fun u' hu=>by
  rw [List.all_cons,Bool.and_eq_true] at f
  rcases List.mem_cons.mp hu with rfl | hu
  ·rw [eqU_of r f.1]; exact eqAt_V r rx f.1 fx
  ·exact mem_eqAt rx fx t f.2 u' hu
def inV (x : V) (xs : List V) : Bool:=xs.any fun y=>eqV y x
def rIn (K : PySem.W.Frag) (neg : Bool) : R2:=fun x y H Q=>∃ p xs,y = .ref p /\ (SqL K H p xs \/ SqT K H p xs) /\ flatV x = true /\ xs.all flatV = true /\ Q (.bl (if neg then !inV x xs else inV x xs)) H
theorem op_in_seq : OpR X (compareOp .In) (rIn X.K false):=by
 intro pins s σ H x y v u Q I rx ry h
 obtain ⟨p,xs,rfl,hq,fx,fs,q⟩:=h
 cases ry
 rcases hq with hq | hq
 ·obtain ⟨its,r,pl,hz⟩:=I.list hq
  refine SeqAt.in_listAt (eqU x) pl.isList (fun w hw=>mem_eqAt rx fx r fs w (by simpa using hw)) ⟨.bl _,H,I,rfl,?_⟩
  rw [show its.toArray.any (eqU x) = its.any (eqU x) by simp,any_eqU r fs]
  exact q
 ·obtain ⟨its,r,pl,hz⟩:=I.tuple hq
  refine SeqAt.in_tupleAt (eqU x) pl (fun w hw=>mem_eqAt rx fx r fs w (by simpa using hw)) ⟨.bl _,H,I,rfl,?_⟩
  rw [show its.toArray.any (eqU x) = its.any (eqU x) by simp,any_eqU r fs]
  exact q
theorem op_notIn_seq : OpR X (compareOp .NotIn) (rIn X.K true):=by
 intro pins s σ H x y v u Q I rx ry h
 obtain ⟨p,xs,rfl,hq,fx,fs,q⟩:=h
 cases ry
 rcases hq with hq | hq
 ·obtain ⟨its,r,pl,hz⟩:=I.list hq
  refine SeqAt.notIn_listAt (eqU x) pl.isList (fun w hw=>mem_eqAt rx fx r fs w (by simpa using hw)) ⟨.bl _,H,I,rfl,?_⟩
  rw [show its.toArray.any (eqU x) = its.any (eqU x) by simp,any_eqU r fs]
  exact q
 ·obtain ⟨its,r,pl,hz⟩:=I.tuple hq
  refine SeqAt.notIn_tupleAt (eqU x) pl (fun w hw=>mem_eqAt rx fx r fs w (by simpa using hw)) ⟨.bl _,H,I,rfl,?_⟩
  rw [show its.toArray.any (eqU x) = its.any (eqU x) by simp,any_eqU r fs]
  exact q
theorem op_notIn_str : OpR X (compareOp .NotIn) (fun x y H Q=>∃ i j,x = .str i /\ y = .str j /\ Q (.bl (!(!(Builtin.Str.occurrences j i 0 j.length 1).isEmpty))) H):=by
 intro pins s σ H x y v u Q I rx ry h
 obtain ⟨i,j,rfl,rfl,q⟩:=h
 obtain ⟨t,rfl⟩:=rx
 obtain ⟨t',rfl⟩:=ry
 exact notIn_str ⟨.bl _,H,I,rfl,q⟩
theorem call_len_seq : CallR X (.builtin "len") (fun xs H Q=>∃ p ys,xs = [.ref p] /\ (SqL X.K H p ys \/ SqT X.K H p ys) /\ Q (.int ys.length) H):=by
 intro pins s σ H xs us Q I r h
 obtain ⟨p,ys,rfl,hq,q⟩:=h
 obtain ⟨u,rfl,rx⟩:=vals1 r
 cases rx
 have hn:=line63
 rcases hq with hq | hq
 ·obtain ⟨its,r',pl,hz⟩:=I.list hq
  have hlen:=r'.length
  exact Calls.call_len_list pl.isList (by simp only [List.size_toArray] <;> omega) ⟨.int ys.length,H,I.tok _,⟨s.toks + 1,by rw [List.size_toArray,hlen]⟩,q⟩
 ·obtain ⟨its,r',pl,hz⟩:=I.tuple hq
  have hlen:=r'.length
  exact len_tuple pl (by simp only [List.size_toArray] <;> omega) ⟨.int ys.length,H,I.tok _,⟨s.toks + 1,by rw [List.size_toArray,hlen]⟩,q⟩
theorem call_len_str : CallR X (.builtin "len") (fun xs H Q=>∃ z,xs = [.str z] /\ z.length <= sizeLine /\ Q (.int z.length) H):=by
 intro pins s σ H xs us Q I r h
 obtain ⟨z,rfl,hz,q⟩:=h
 obtain ⟨u,rfl,t,rfl⟩:=vals1 r
 have hn:=line63
 exact len_str (by omega) ⟨.int z.length,H,I.tok _,⟨_,rfl⟩,q⟩
theorem CallR.or {f : Value} {r r' : List V->Hp->VK->Prop} (h : CallR X f r) (h' : CallR X f r') : CallR X f (fun xs H Q=>r xs H Q \/ r' xs H Q):=by
 intro pins s σ H xs us Q I rs q
 rcases q with q | q
 ·exact h pins s σ H xs us Q I rs q
 ·exact h' pins s σ H xs us Q I rs q
theorem call_tuple_of : CallR X (.type "tuple") (fun xs H Q=>∃ p ys,xs = [.ref p] /\ ((SqL X.K H p ys /\ ∀ l,H l = none->Q (.ref l) (upd H l (.tup ys))) \/ (SqT X.K H p ys /\ Q (.ref p) H))):=by
 intro pins s σ H xs us Q I r h
 obtain ⟨p,ys,rfl,h⟩:=h
 obtain ⟨u,rfl,rx⟩:=vals1 r
 cases rx
 rcases h with ⟨hq,q⟩ | ⟨hq,q⟩
 ·obtain ⟨its,r',pl,hz⟩:=I.list hq
  have hlen:=r'.length
  refine call_tuple_list pl.isList (fun h' kp=>?_) (by simp only [List.size_toArray] <;> omega)
  have I1 : Inv X pins σ H { s with heap:=h' }:=I.kept (t':=s.toks) kp
  have I2 : Inv X pins σ (upd H h'.objs.size (.tup ys)) { s with heap:=h'.push { cls:=.type "tuple",data:=.seq its.toArray } }:=
   I1.laid (t':=s.toks) (fun b o e=>Heap.get?_push_of_some _ e) (Nat.le_refl _) (show ObjOk X.prog X.w _ _ _ (.tup ys) from ⟨hz,its,r',IsTup.new _ _⟩)
  exact ⟨.ref h'.objs.size,_,I2,rfl,q _ (I1.hok.fresh (Nat.le_refl _))⟩
 ·obtain ⟨its,r',pl,hz⟩:=I.tuple hq
  exact call_tuple_same pl ⟨.ref p,H,I,rfl,q⟩
def tyV (K : PySem.W.Frag) (T : String) (x : V) (H : Hp) : Prop:=match x with
 | .str _=>T = "str"
 | .int _=>T = "int"
 | .ref p=>(T = "list" /\ ∃ xs,SqL K H p xs) \/ (T = "tuple" /\ ∃ o,K.lookup p = some o /\ o.cls = .type "tuple" /\ o.dict = none) \/
   (T = "dict" /\ ((∃ kvs,H p = some (.dK kvs)) \/ ∃ kvs,H p = some (.dT kvs))) \/ (T = "set" /\ ∃ S n,H p = some (.set S n))
 | _=>False
theorem tyV_is {pins : List (Addr × Obj)} {σ : St} {H : Hp} {s : Shared} {T : String} {x : V} {v : Value} (I : Inv X pins σ H s) (r : RelV x v) (ty : tyV X.K T x H) :
  s.TypeIs v T /\ ∀ a,v = .ref a->∃ ob,s.heap.get? a = some ob /\ ob.dict = none:=by
 cases x with
 | str z=>
  obtain ⟨t,rfl⟩:=r
  cases (show T = "str" from ty)
  exact ⟨typeIs_str s z t,fun _ e=>nomatch e⟩
 | int i=>
  obtain ⟨t,rfl⟩:=r
  cases (show T = "int" from ty)
  exact ⟨typeIs_int s i t,fun _ e=>nomatch e⟩
 | ref p=>
  cases r
  rcases ty with ⟨rfl,xs,hq⟩ | ⟨rfl,o,hk,hc,hd⟩ | ⟨rfl,hk⟩ | ⟨rfl,S,n,hk⟩
  ·obtain ⟨its,_,pl,_⟩:=I.list hq
   refine ⟨pl.isList.typeIs,fun a e=>?_⟩
   cases e
   obtain ⟨o,n,e,c,hd,_⟩:=pl
   exact ⟨o,e,hd⟩
  ·refine ⟨⟨o,I.kIn p o hk,hc⟩,fun a e=>?_⟩
   cases e
   exact ⟨o,I.kIn _ o hk,hd⟩
  ·have z : ∃ o,s.heap.get? p = some o /\ o.ExactDict:=by
    rcases hk with ⟨kvs,hk⟩ | ⟨kvs,hk⟩
    ·obtain ⟨_,_,_,_,o,_,_,e,ex,_⟩:=I.hok p _ hk
     exact ⟨o,e,ex⟩
    ·obtain ⟨_,_,_,_,o,_,_,e,ex,_⟩:=I.hok p _ hk
     exact ⟨o,e,ex⟩
   obtain ⟨o,e,ex⟩:=z
   refine ⟨⟨o,e,ex.1⟩,fun a e2=>?_⟩
   cases e2
   exact ⟨o,e,ex.2.1⟩
  ·obtain ⟨o,_,_,_,e,ex,_⟩:=I.hok p _ hk
   refine ⟨⟨o,e,ex.1⟩,fun a e2=>?_⟩
   cases e2
   exact ⟨o,e,ex.2.1⟩
 | _=>exact False.elim ty
def tBM (K : PySem.W.Frag) (T : String) (r : V->List V->Hp->VK->Prop) (to : TE) (t : TA) : TE:=fun σ H Q=>to σ H fun x H1=>tyV K T x H1 /\ t σ H1 fun xs H2=>r x xs H2 Q
variable {o e : Expr} {es : List Expr} {to : TE} {t : TA} {name : Str} {apos cpos : Pos} {T id : String} {r : V->List V->Hp->VK->Prop}
theorem pe_bm (pa : PlainAttrs T) (slot : Slot T name id) (hty : typeOf (.builtin id) = pure (.type "method_descriptor")) (hm : MtR X id r) (ho : PE X o to) (ha : PA X (e::es) t)
  (hbase : attributeBase o name X.env (eval o X.env) = eval o X.env:=by rfl)
  (hfew : ((backTo cpos (starEach (e::es) X.env)).all (fun x=>!x.1) && (backToKw cpos (keywordEach [] X.env)).all (fun x=>x.1.isSome)
   && decide ((e::es).length + ([] : List Keyword).length + (if ([] : List Keyword).isEmpty then 0 else 1) < 30)) = true:=by rfl)
  (hline : (apos.endLine == cpos.line) = true:=by rfl) (hs : starEach (e::es) X.env = (false,eval e X.env)::starEach es X.env:=by rfl) (hplain : (backTo cpos (starEach es X.env)).any (·.1) = false:=by rfl) :
  PE X (.Call (.Attribute o name apos) (e::es) [] cpos) (tBM X.K T r to t):=by
 intro pins s σ H Q I h
 refine wpAny_Call_method_late hbase hfew hline rfl (thn (ho pins s σ H _ I h) fun v s1 ⟨x,H1,I1,r1,ty,q1⟩=>?_)
 obtain ⟨h1,h2⟩:=tyV_is I1 r1 ty
 refine ⟨T,id,pa,slot,hty,h1,h2,?_⟩
 have hA:=ha cpos pins s1 σ H1 _ I1 q1
 rw [hs] at hA ⊢
 refine Calls.callWith_builtin (by show (false || (backTo cpos (starEach es X.env)).any (·.1)) = false; rw [hplain] <;> rfl) (Calls.evalArgs_plain ?_)
 exact thn hA fun us s2 ⟨vs,H2,I2,r2,q2⟩=>hm pins s2 σ H2 x vs v us Q I2 r1 r2 q2
/- xs.append(e),list.index on a module's tuple .. are MtR facts of 06m -/
end
def MtM (X : Cx) (id : String) (r : V->List V->Hp->VK->Prop) : Prop:=
 ∀ (pins : List (Addr × Obj)) (s : Shared) (σ : St) (H : Hp) (x : V) (xs : List V) (v : Value) (us : List Value) (Q : VK),Inv X pins σ H s->RelV x v->Vals xs us->r x xs H Q->
  wpAny (model X.prog X.w) X.A (call (.builtin id) (v::us)) (EP X pins σ Q) X.xe s
theorem Vals.one : ∀ {x : V} {us : List Value},Vals [x] us->∃ u,us = [u] /\ RelV x u
 | _,_,.cons r .nil=>⟨_,rfl,r⟩
section
variable {X : Cx} {pins : List (Addr × Obj)} {σ : St} {H : Hp} {s : Shared} {l b : Addr} {xs ys zs : List V}
theorem Inv.lset {its its' : List Value} {n : Nat} {f : Array Value->Array Value} {t' : Nat} (I : Inv X pins σ H s) (hH : H l = some (.lst xs))
  (e : s.heap.get? l = some { cls:=.type "list",data:=.seq its.toArray n }) (hf : f its.toArray = its'.toArray) (hv : Vals ys its') (hz : ys.length <= sizeLine) :
  Inv X pins σ (upd H l (.lst ys)) { s with heap:=s.heap.update l (Obj.mapSeq f),toks:=t' }:=by
 have q:=PySem.IsL.update e f
 rw [hf] at q
 refine I.write (x:=l) (e:=l) (by rw [hH]; exact trivial) (.inl rfl) (fun b' u hb hu=>(Heap.get?_update_other s.heap (Obj.mapSeq f) (Ne.symm hb)).trans hu) ⟨_,q⟩ ?_
 exact ⟨hz,its',_,hv,q⟩
theorem Inv.lnew {its : List Value} {t' : Nat} (I : Inv X pins σ H s) (hv : Vals ys its) (hz : ys.length <= sizeLine) :
  Inv X pins σ (upd H s.heap.objs.size (.lst ys)) { s with heap:=s.heap.push { cls:=.type "list",data:=.seq its.toArray },toks:=t' }:=
 I.laid (fun _ _ q=>Heap.get?_push_of_some _ q) (Nat.le_refl _) ⟨hz,its,0,hv,Heap.get?_push_size _ rfl⟩
theorem Inv.fresh (I : Inv X pins σ H s) : H s.heap.objs.size = none:=I.hok.fresh (Nat.le_refl _)
theorem Inv.lstM (I : Inv X pins σ H s) (hH : H l = some (.lst xs)) : xs.length <= sizeLine /\ ∃ (its : List Value) (n : Nat),Vals xs its /\ xs.length = its.length /\ s.heap.get? l = some { cls:=.type "list",data:=.seq its.toArray n }:=by
 obtain ⟨z,its,n,r,e⟩:=I.hok l _ hH
 exact ⟨z,its,n,r,r.length,e⟩
theorem notLongL {n : Nat} (h : n <= sizeLine) : Builtin.List.listTooLong n = false:=by
 unfold Builtin.List.listTooLong
 exact decide_eq_false (by omega)
end
section
variable {X : Cx}
def rAppend : V->List V->Hp->VK->Prop:=fun x vs H Q=>∃ l xs y,x = .ref l /\ vs = [y] /\ H l = some (.lst xs) /\ xs.length < sizeLine /\ Q .non (upd H l (.lst (xs++[y])))
theorem mt_append : MtM X "list.append" rAppend:=by
 intro pins s σ H x vs v us Q I rx rv h
 obtain ⟨l,xs,y,rfl,rfl,hH,hz,q⟩:=h
 cases rx
 obtain ⟨u,rfl,ru⟩:=rv.one
 obtain ⟨z,its,n,r,hl,e⟩:=I.lstM hH
 refine call_meets F.slot_list_append ⟨_,e,rfl⟩ F.entry_list_append (F.args_list_append_2 _ _) (PySem.list_append l its.toArray n u (by rw [List.size_toArray]; omega)) ⟨e,?_⟩
 refine ⟨.non,_,I.lset (its':=its++[u]) hH e (by simp) (r.append (.cons ru .nil)) ?_,rfl,q⟩
 rw [List.length_append,List.length_singleton]
 omega
def rExtend : V->List V->Hp->VK->Prop:=fun x vs H Q=>∃ l b xs zs,x = .ref l /\ vs = [.ref b] /\ H l = some (.lst xs) /\ H b = some (.lst zs) /\ xs.length + zs.length <= sizeLine /\ Q .non (upd H l (.lst (xs++zs)))
theorem mt_extend : MtM X "list.extend" rExtend:=by
 intro pins s σ H x vs v us Q I rx rv h
 obtain ⟨l,b,xs,zs,rfl,rfl,hH,hB,hz,q⟩:=h
 cases rx
 obtain ⟨u,rfl,ru⟩:=rv.one
 cases ru
 obtain ⟨z,its,n,r,hl,e⟩:=I.lstM hH
 obtain ⟨z2,its2,n2,r2,hl2,e2⟩:=I.lstM hB
 have hsz : its.toArray.size + its2.toArray.size <= sizeLine:=by rw [List.size_toArray,List.size_toArray]; omega
 have hlong : ¬ (!its.toArray.isEmpty && Builtin.List.listTooLong (its.toArray.size + its2.toArray.size)) = true:=by
  rw [notLongL hsz,Bool.and_false]
  exact Bool.false_ne_true
 refine call_meets F.slot_list_extend ⟨_,e,rfl⟩ F.entry_list_extend (F.args_list_extend_2 _ _)
  (AutoSeq1.list_extend_list_list_0 l its.toArray n b its2.toArray n2 hlong (by rw [List.size_toArray]; omega) (by omega)) ⟨e,e2,?_⟩
 refine ⟨.non,_,I.lset (its':=its++its2) hH e (by simp) (r.append r2) ?_,rfl,q⟩
 rw [List.length_append]
 omega
end
section
variable {prog : Program} {w : World} {A : Around} {E : Value->Shared->Prop} {s : Shared}
end
section
variable {X : Cx}
end
end L2
namespace Att
open PySem PySem.W PySem.Calls PyProof.Rows
theorem ints_of_wellAll {P : Params} {h : Heap} : ∀ (ns : List Int) (vs : List Value),WellAll P h vs (ns.map WData.int)->IntsAre vs ns:=by
 intro ns
 induction ns with
 | nil=>
  intro vs w
  rw [List.map_nil] at w
  cases w
  exact .nil
 | cons n ns ih=>
  intro vs w
  rw [List.map_cons] at w
  cases w with
  | cons a b=>
   cases a
   exact .cons _ _ (ih _ b)
theorem script_of {l : OpenLaw} {n : Nat} (hn : l.most = some n) {P : Params} {h : Heap} {args : List WData} {vals : List Value}
  (hpre : l.row.toRowW.claim.pre args = true) (hwl : WellAll P h vals args) :
  ∃ a vs ns,vals = [Value.ref a] /\ args = [WData.list (ns.map WData.int)] /\ h.get? a = some { cls:=.type "list",data:=.seq vs.toArray } /\ IntsAre vs ns /\ ns.length <= n:=by
 have hsh : WShape.hasAll [] args [.list .int] = true:=(pre_splitW hpre).1
 have hc : l.pre.holds [] { args:=args } = true:=(pre_splitW hpre).2
 obtain ⟨d,r,rfl,h1,h2⟩:=hasAllW_cons hsh
 obtain rfl:=hasAllW_nil h2
 obtain ⟨xs,rfl,h3⟩:=hasW_list h1
 obtain ⟨ns,rfl⟩:=items_int h3
 have hlen : ns.length <= n:=by
  unfold OpenLaw.pre at hc
  have h4 : (WTm.not (.lt (.lit (.int (n : Int))) (.len (.arg 0)))).holds [] { args:=[.list (ns.map .int)] } = true:=by
   have h4:=(holds_andW hc).1
   rw [hn] at h4
   exact h4
  have h5:=condW_of h4 (w_not (w_lt w_lit (w_len_list (w_arg rfl))))
  rw [List.length_map] at h5
  refine Nat.le_of_not_lt fun q=>?_
  have q' : (n : Int) < ((ns.length : Nat) : Int):=by omega
  first
   | (rw [decide_eq_true q'] at h5; exact absurd h5 (by decide))
   | (simp at h5; omega)
 cases hwl with
 | cons w1 w2=>
  cases w2
  cases w1 with
  | list ho hall=>exact ⟨_,_,ns,rfl,rfl,ho,ints_of_wellAll ns _ hall,hlen⟩
theorem post_true (l : OpenLaw) (args : List WData) : l.row.toRowW.claim.post args (.bool true) args = true:=
 postW_of (r:=l.row.toRowW) (X:=(true == true))
  (show WShape.has [] (.bool true) .bool = true by first | rfl | decide | simp [WShape.has,WShape.arms,WShape.armsAll])
  (show (WTm.eq .res (.lit (.bool true))).value [] { args:=args,res:=some (.bool true),after:=args } = some (.bool (true == true)) from w_eq_bool (w_res rfl) w_lit) rfl
theorem attach_call {l : OpenLaw} {n : Nat} {q : Program} {loose : List Str} {XP : (Str->Option Value)->Heap->Prop} {YP : World->Heap->Prop} {d : DefRec}
  (hn : l.most = some n) (hdf : d.params.defaults = [])
  (call : ∀ (w : World) (s₀ s₁ : Shared) (mg mb : Str->Option Value) (fa : Addr) (o : Obj) (pm cd doc : Value) (a : Addr) (vs : List Value) (ns : List Int),
   Ground q loose [] XP w s₀ mg mb s₁.heap->YP w s₁.heap->
   s₁.heap.get? fa = some o->o.data = .func (docDef d.name d.params d.body d.scope pm cd doc)->s₁.heap.CodeRec cd d.name->mg d.name = some (.ref fa)->
   s₁.heap.get? a = some { cls:=.type "list",data:=.seq vs.toArray }->IntsAre vs ns->ns.length <= n->s₁.gens = #[]->
   codeAny (model l.prog w) callerA (.call (.ref fa) ⟨[.ref a],[]⟩) (fun r s'=>r = .ok (.ret (.bool true)) /\ OldK s₁.heap s'.heap /\ s'.os = s₁.os /\ AllBare s'.gens) s₁) :
  WalkO q loose XP YP l.row.toRowW d [] (fun f vs=>PySem.call f vs):=by
 intro w s₀ s₁ mg mb G Y fa o pm cd doc dV kV ho hd hcd hD hmg hg args vals as hpre hlay hrd hwl hlo
 obtain rfl : dV = .none:=Dflts.none hD hdf
 obtain rfl : kV = .none:=Dflts.noKw hD
 obtain ⟨a,vs,ns,rfl,rfl,hobj,hints,hlen⟩:=script_of hn hpre hwl
 refine enter_call (codeAny_mono (call w s₀ s₁ mg mb fa o pm cd doc a vs ns G Y ho (fd_plain hd) hcd hmg hobj hints hlen hg) fun r s' hq=>?_)
 obtain ⟨rfl,h2,h3,h4⟩:=hq
 exact ⟨.inl ⟨.bool true,.bool true,[],rfl,fun _=>rfl,.bool true,post_true l _,fun _=>⟨List.Pairwise.nil,fun _ hm=>(nomatch hm)⟩⟩,h2,h3,h4⟩
section
variable {prog : Program} {w : World} {A : Around} {E : Value->Shared->Prop} {s : Shared} {K : Frag}
end
end Att
namespace L2
open PySem PySem.Spec PyProof.Rows
theorem vals_ints : ∀ {vs : List Value} {ns : List Int},IntsAre vs ns->Vals (ns.map V.int) vs
 | _,_,.nil=>.nil
 | _,_,.cons n t h=>.cons ⟨t,rfl⟩ (vals_ints h)
def Only (H : Hp) : Prop:=∀ b,H b = none \/ ∃ o xs,H b = some (.frz o (.lst xs))
theorem law_call {P : Program} {w : World} {K : PySem.W.Frag} {mg mb : Str->Option Value} {CX : CXT} {k : Nat} {fa a : Addr} {fd : FuncData} {x : Str} {sp : Sp} {s₁ : Shared} {vs : List Value} {ns : List Int}
  (KX : K.In s₁.heap) (hns : s₁.heap.Ns mainGlobals mg) (hb : s₁.heap.Ns builtinsNs mb) (hbb : ∀ x : Str,x ≠ "__name__"->mb x = bootBuiltins x) (hlim : s₁.heap.NoLimit) (hg : s₁.gens = #[])
  (ha : s₁.heap.get? a = some { cls:=.type "list",data:=.seq vs.toArray }) (hi : IntsAre vs ns) (hl : ns.length <= sizeLine) (hr : Room k callerA)
  (F : ∀ base : Heap,K.In base->base.Ns mainGlobals mg->FnOk P w K mg base CX k fa fd [x] sp) (hbind : ∀ (s : Shared) (u : Value),BindsTo s fd ⟨[u],[]⟩ [(x,u)])
  (hsp : ∀ H : Hp,Only H->SqL K H a (ns.map V.int)->sp [.ref a] H (fun v _=>v = .bl true) fun _ _ _=>False)
  (hCX : ∀ H e s',CX [] H s₁ (fun _ _ _=>False) e s'->False) :
  codeAny (model P w) callerA (.call (.ref fa) ⟨[.ref a],[]⟩) (fun r s'=>r = .ok (.ret (.bool true)) /\ OldK s₁.heap s'.heap /\ s'.os = s₁.os /\ AllBare s'.gens) s₁:=by
 have rv:=vals_ints hi
 have lenV:=hi.length
 -- from an abstract heap in which nothing but the script may be tracked
 have core : ∀ H : Hp,Only H->SqL K H a (ns.map V.int)->HOk P w H s₁.heap->(∀ b,H b ≠ none->b = a)->(H a ≠ none->K.lookup a = none)->
   codeAny (model P w) callerA (.call (.ref fa) ⟨[.ref a],[]⟩) (fun r s'=>r = .ok (.ret (.bool true)) /\ OldK s₁.heap s'.heap /\ s'.os = s₁.os /\ AllBare s'.gens) s₁:=by
  intro H hO hS hok hA hK
  have base_of : ∀ {b : Addr} {o : Obj},s₁.heap.get? b = some o->H b = none->(hidT s₁.heap H).get? b = some o:=fun e n=>hidT_get e n
  have noA : ∀ {b : Addr} {o : Obj} {es : Array DictEntry} {ep : Nat},s₁.heap.get? b = some o->o.data = .dict es ep->H b = none:=fun {b o es ep} e d=>by
   cases q : H b with
   | none=>rfl
   | some u=>
    have e' : b = a:=hA b (by rw [q]; simp)
    subst e'
    rw [ha] at e; cases e
    have d' : Data.seq vs.toArray _ = Data.dict es ep:=d
    cases d'
  have nsK : ∀ {b : Addr} {m : Str->Option Value},s₁.heap.Ns b m->(hidT s₁.heap H).Ns b m:=fun {b m} ⟨o,es,ep,e,d,r⟩=>⟨o,es,ep,base_of e (noA e d),d,r⟩
  have hKb : K.In (hidT s₁.heap H):=fun b o e=>base_of (KX b o e) (by
   cases q : H b with
   | none=>rfl
   | some u=>
    have e' : b = a:=hA b (by rw [q]; simp)
    subst e'
    rw [hK (by rw [q]; simp)] at e; cases e)
  have hM : Mod K mg (hidT s₁.heap H):=⟨hKb,nsK hns,⟨mb,nsK hb,hbb⟩,let ⟨mc,h1,h2⟩:=hlim; ⟨mc,nsK h1,h2⟩⟩
  have e0 : Env0 P w K mg (hidT s₁.heap H) callerA [] s₁ H:=⟨rfl,hM,fun b o e=>of_hidT e,Nat.le_of_eq (hidT_size _ _),trivial,fun b hb=>absurd (show b ∈ ([] : List Addr) from hb) (by simp),hok,.of_eq hg⟩
  refine codeAny_mono ((F _ hKb (nsK hns)).run callerA [] s₁ H ⟨[.ref a],[]⟩ [.ref a] [.ref a] _ _ hr e0 (hbind s₁ (.ref a)) (.cons rfl .nil) (hsp H hO hS)) fun r s' h=>?_
  cases r with
  | error e=>exact (hCX H e s' h).elim
  | ok fl=>
   cases fl with
   | next=>exact False.elim h
   | brk=>exact False.elim h
   | cont=>exact False.elim h
   | ret u=>
    obtain ⟨v,H',os,bare,un,hok',r',q⟩:=h
    have q' : v = .bl true:=q
    subst q'
    obtain rfl : u = Value.bool true:=r'
    refine ⟨rfl,OldK.of_keep fun b o e=>?_,os,bare⟩
    cases q : H b with
    | none=>exact un.keep b o e q (by intro z; exact absurd (show b ∈ ([] : List Addr) from z) (by simp)) (by simp)
    | some u=>
     rcases hO b with z | ⟨ob,xs,z⟩
     ·rw [q] at z; cases z
     ·have z2:=un.frzs b ob _ z
      obtain ⟨e1,_⟩:=hok b _ z
      obtain ⟨e2,_⟩:=hok' b _ z2
      rw [e] at e1; cases e1
      exact e2
 cases hk : K.lookup a with
 | some o=>
  -- the script is one of the module's own objects
  have e:=KX a o hk
  rw [ha] at e
  cases e
  refine core (fun _=>none) (fun _=>.inl rfl) (.inr ⟨_,vs.toArray,_,hk,rfl,rfl,rfl,by rw [List.size_toArray,lenV]; exact hl,by simpa using rv⟩) (fun b u z=>by have z' : (none : Option HO) = some u:=z; cases z') (fun b z=>absurd rfl z) fun z=>absurd rfl z
 | none=>
  refine core (fun b=>if b = a then some (.frz { cls:=.type "list",data:=.seq vs.toArray } (.lst (ns.map V.int))) else none) (fun b=>?_) (.inl (.inr ⟨{ cls:=.type "list",data:=.seq vs.toArray },if_pos rfl⟩)) (fun b u z=>?_) (fun b z=>?_) fun _=>hk
  ·by_cases hb : b = a
   ·exact .inr ⟨_,_,if_pos hb⟩
   ·exact .inl (if_neg hb)
  ·by_cases hb : b = a
   ·have z':=(if_pos hb).symm.trans z
    cases z'
    subst hb
    exact ⟨ha,by rw [List.length_map]; exact hl,vs,_,rv,ha⟩
   ·have z':=(if_neg hb).symm.trans z
    cases z'
  ·by_cases hb : b = a
   ·exact hb
   ·exact absurd (if_neg hb) z
theorem walk_of {l : PySem.W.OpenLaw} {n k : Nat} {q : Program} {loose : List Str} {XP : (Str->Option Value)->Heap->Prop} {YP : World->Heap->Prop} {d : DefRec} {K : Params->PySem.W.Frag} {CX : World->CXT} {sp : World->Sp} {x : Str}
  (hn : l.most = some n) (hn2 : n <= sizeLine) (hdf : d.params.defaults = []) (hr : Room k callerA)
  (hY : ∀ (w : World) (h : Heap),YP w h->(K w.params).In h)
  (F : ∀ (w : World) (mg : Str->Option Value) (fa : Addr) (h : Heap),(K w.params).In h->h.Ns mainGlobals mg->mg d.name = some (.ref fa)->
   ∃ fd : FuncData,(∀ (s : Shared) (u : Value),BindsTo s fd ⟨[u],[]⟩ [(x,u)]) /\
    ∀ base : Heap,(K w.params).In base->base.Ns mainGlobals mg->FnOk l.prog w (K w.params) mg base (CX w) k fa fd [x] (sp w))
  (hsp : ∀ (w : World) (H : Hp) (a : Addr) (ns : List Int),ns.length <= n->Only H->SqL (K w.params) H a (ns.map V.int)->sp w [.ref a] H (fun v _=>v = .bl true) fun _ _ _=>False)
  (hCX : ∀ (w : World) (H : Hp) (s : Shared) (e : Value) (s' : Shared),CX w [] H s (fun _ _ _=>False) e s'->False) :
  PySem.W.WalkO q loose XP YP l.row.toRowW d [] (fun f vs=>PySem.call f vs):=by
 refine Att.attach_call hn hdf fun w s₀ s₁ mg mb fa o pm cd doc a vs ns G Y ho hd hcd hmg hobj hints hlen hg=>?_
 have KX:=hY w _ Y
 obtain ⟨fd,hb,hF⟩:=F w mg fa _ KX G.T.g hmg
 exact law_call KX G.T.g G.T.b G.T.builtins G.T.nolimit hg hobj hints (Nat.le_trans hlen hn2) hr hF hb (fun H hO hS=>hsp w H a ns hlen hO hS) fun H e s'=>hCX w H s₁ e s'
theorem walk_ofK {l : PySem.W.OpenLaw} {n k : Nat} {q : Program} {loose : List Str} {XP : (Str->Option Value)->Heap->Prop} {YP : World->Heap->Prop} {d : DefRec} {K : Params->PySem.W.Frag} {CX : CXT} {sp : PySem.W.Frag->Sp} {x : Str}
  (hn : l.most = some n) (hn2 : n <= sizeLine) (hdf : d.params.defaults = []) (hr : Room k callerA)
  (hY : ∀ (w : World) (h : Heap),YP w h->(K w.params).In h)
  (F : ∀ (w : World) (mg : Str->Option Value) (fa : Addr) (h : Heap),(K w.params).In h->h.Ns mainGlobals mg->mg d.name = some (.ref fa)->
   ∃ fd : FuncData,(∀ (s : Shared) (u : Value),BindsTo s fd ⟨[u],[]⟩ [(x,u)]) /\
    ∀ base : Heap,(K w.params).In base->base.Ns mainGlobals mg->FnOk l.prog w (K w.params) mg base CX k fa fd [x] (sp (K w.params)))
  (hsp : ∀ (K : PySem.W.Frag) (H : Hp) (a : Addr) (ns : List Int),ns.length <= n->Only H->SqL K H a (ns.map V.int)->sp K [.ref a] H (fun v _=>v = .bl true) fun _ _ _=>False)
  (hCX : ∀ (H : Hp) (s : Shared) (e : Value) (s' : Shared),CX [] H s (fun _ _ _=>False) e s'->False) :
  PySem.W.WalkO q loose XP YP l.row.toRowW d [] (fun f vs=>PySem.call f vs):=
 walk_of (K:=K) (CX:=fun _=>CX) (sp:=fun w=>sp (K w.params)) hn hn2 hdf hr hY F (fun w H a ns h1 h2 h3=>hsp (K w.params) H a ns h1 h2 h3) fun _ H s e s'=>hCX H s e s'
def defArgs (s : Stmt) : Arguments:=match s with
 | .FunctionDef _ a _ _ _ _ _ _ _ _=>a
 | _=>{ posonlyargs:=[],args:=[],vararg:=none,kwonlyargs:=[],kw_defaults:=[],kwarg:=none,defaults:=[] }
def defBody (s : Stmt) : List Stmt:=match s with
 | .FunctionDef _ _ b _ _ _ _ _ _ _=>b
 | _=>[]
def defScope (s : Stmt) : Scope:=match s with
 | .FunctionDef _ _ _ _ _ _ sc _ _ _=>sc
 | _=>{ kind:=.function,names:=[],isGenerator:=false,isCoroutine:=false }
abbrev CX0 : CXT:=fun _ _ _ _ _ _=>False
abbrev E0 : XK:=fun _ _ _=>False
theorem pass0 {X : Cx} : Passes CX0 X E0:=fun _ _ _ _ _ _ _ h=>h.elim
structure Fun (K : PySem.W.Frag) (x qual : Str) (st : Stmt) (f : Addr) (fd : FuncData) : Prop where
 ex : ∃ (oc : Value) (od : Option Addr) (kV doc pm : Value) (an : Option Addr) (cdv ct : Value) (osl : Array (Option Value)),
  fd = PySem.W.fnOf x qual (defArgs st) (defBody st) (defScope st) .none kV doc pm an cdv ct /\ K.lookup f = some ⟨oc,od,.func fd,osl⟩ /\ PySem.W.codeIn K cdv qual = true
 kp : PySem.W.keepIn K (.ref f) = true
section
variable {P : Program} {w : World} {K : PySem.W.Frag} {mg : Str->Option Value} {base : Heap}
theorem Fun.ok {x qual : Str} {st : Stmt} {f : Addr} {fd : FuncData} {N ps : List Str} {k : Nat} {sp : Sp} (F : Fun K x qual st f fd) (S : FnScope N ps (defScope st)) (len : ∀ vs H Q E,sp vs H Q E->vs.length = ps.length)
  (hbody : ∀ (cdv : Value) (A : Around) (outer : List Env) (s : Shared) (H : Hp) (vs : List V) (Q : VK) (E : XK),Room k (A.deeper (envOfC qual (defScope st) s.heap.objs.size f cdv))->sp vs H Q E->
   ∃ t,PSs (cxOf CX0 P w K mg base N qual (defScope st) f cdv A outer s H E).nox (defBody st) t /\ t { nx:=fun _ H'=>Q .non H',rt:=Q } (start N vs) H) : FnOk P w K mg base CX0 (k + 1) f fd ps sp:=by
 obtain ⟨oc,od,kV,doc,pm,an,cdv,ct,osl,rfl,lk,hcd⟩:=F.ex
 refine fn_of lk hcd S len fun A outer s H vs Q E hr hsp=>?_
 obtain ⟨t,h,q⟩:=hbody cdv A outer s H vs Q E hr hsp
 exact ⟨t,h.nox,q⟩
theorem Fun.binds {x qual : Str} {st : Stmt} {f : Addr} {fd : FuncData} {ps : List Str} (F : Fun K x qual st f fd)
  (h : ∀ (kV doc pm : Value) (an : Option Addr) (cdv ct : Value) (us : List Value),us.length = ps.length->bindArgs (PySem.W.fnOf x qual (defArgs st) (defBody st) (defScope st) .none kV doc pm an cdv ct) ⟨us,[]⟩ = pure (ps.zip us)) : Binds K fd ps []:=by
 obtain ⟨oc,od,kV,doc,pm,an,cdv,ct,osl,rfl,lk,hcd⟩:=F.ex
 exact .all (h kV doc pm an cdv ct)
theorem fun_mk {x qual : Str} {st : Stmt} {f : Addr} {oc : Value} {od an : Option Addr} {osl : Array (Option Value)} {kV doc pm cdv ct : Value} (l : K.lookup f = some ⟨oc,od,.func (PySem.W.fnOf x qual (defArgs st) (defBody st) (defScope st) .none kV doc pm an cdv ct),osl⟩)
  (c : PySem.W.codeIn K cdv qual = true) (k : PySem.W.keepIn K (.ref f) = true) : Fun K x qual st f (PySem.W.fnOf x qual (defArgs st) (defBody st) (defScope st) .none kV doc pm an cdv ct):=⟨⟨oc,od,kV,doc,pm,an,cdv,ct,osl,rfl,l,c⟩,k⟩
end
section
variable {X : Cx}
theorem pv (i : Nat) {x : Str} {pos : Pos} (hN : X.N[i]? = some x:=by rfl) (hv : Vis X.env.scope x:=by first | exact Or.inl rfl | exact Or.inr (Or.inl rfl) | exact Or.inr (Or.inr rfl)) (hd : (x == ("__debug__" : Str)) = false:=by decide)
  (hcd : (x == ("__classdict__" : Str)) = false:=by decide) : PE X (.Name x pos) (tVar i):=pe_var hN hv hd hcd
end
def Same (H H' : Hp) : Prop:=∀ b o,H b = some o->H' b = some o
theorem Same.refl (H : Hp) : Same H H:=fun _ _ h=>h
theorem Same.trans {H H1 H2 : Hp} (a : Same H H1) (b : Same H1 H2) : Same H H2:=fun c o h=>b c o (a c o h)
theorem Same.free {H H' : Hp} (e : Same H H') {l : Addr} (h : H' l = Option.none) : H l = Option.none:=by
 cases q : H l with
 | none=>rfl
 | some o=>
  rw [e l o q] at h
  cases h
end L2
set_option maxHeartbeats 4000000
namespace L2
open PySem PySem.Spec PyProof.Rows
def Its (x : Str) : It:=⟨fun i _=>i < x.cps.size,fun i H v H'=>H' = H /\ ∃ c,x.cps[i]? = some c /\ v = .str ⟨#[c]⟩,fun i _=>i = x.cps.size⟩
theorem go_str {M : Model} {A : Around} {E : Value->Shared->Prop} {s : Shared} {tg : Expr} {it : Addr} {y : Str} {t : Tok} {Q : Unit->Shared->Prop} (hQ : Q () s) : wpAny M A (letOwnedTupleGo tg (.ref it) (.str y t)) Q E s:=by
 unfold letOwnedTupleGo
 cases tg <;> exact wpAny_pure hQ
theorem turn_str {P : Program} {w : World} {K : PySem.W.Frag} {tg : Expr} (T : String) (it : Addr) (x : Str) (t : Tok)
  (W : ∀ A : Around,A.handled = none->Walks P w A it [it] [it] x.cps.size (SignAt x) (fun i h=>h.IsStrIter it T x t i))
  (hs : ∀ (A : Around) (i : Nat) (s : Shared) (Q : Value->Shared->Prop) (E : Value->Shared->Prop),s.heap.IsStrIter it T x t i->Q (.ref it) s->wpAny (model P w) A (pyIter (.ref it)) Q E s) :
  Turn P w K tg (Its x) [it] it (fun i h=>h.IsStrIter it T x t i) where
 mem:=by simp
 obj:=fun i h st b hb=>by
  have e : b = it:=by simpa using hb
  subst e
  obtain ⟨o,e,c,d⟩:=st
  exact ⟨o,e,fun v z=>by rw [d] at z; cases z⟩
 keep:=fun i h h' st k=>by
  obtain ⟨o,e,r⟩:=st
  exact ⟨o,k it (by simp) o e,r⟩
 item:=by
  intro X hP hw hK hc i pins s σ H E I hf st hg
  subst hP hw hK
  obtain ⟨f0,f1,f2,f3,f4,f5⟩:=hf it (by simp)
  refine (W X.A (I.ok.hd hc)).item i s _ _ hg st fun v h' tk hv st' kk=>?_
  obtain ⟨c,u,hcu,rfl⟩:=hv
  have I1 : Inv X pins σ H { s with heap:=h',toks:=tk }:=I.turned (fun b o hb e=>kk b o (by simpa using hb) e) f0 f1 f3 f4 f5
  exact ⟨_,rfl,go_str ⟨.str ⟨#[c]⟩,H,I1,⟨u,rfl⟩,⟨rfl,c,hcu,rfl⟩,st',fun b hb=>(hf b hb).1⟩⟩
 done:=by
  intro X hP hw hK hc i pins s σ H E I hf st hg
  subst hP hw hK
  obtain ⟨f0,f1,f2,f3,f4,f5⟩:=hf it (by simp)
  have hg' : i = x.cps.size:=hg
  subst hg'
  refine (W X.A (I.ok.hd hc)).done s _ _ st fun h' tk kk=>?_
  exact ⟨rfl,I.turned (fun b o hb e=>kk b o (by simpa using hb) e) f0 f1 f3 f4 f5⟩
 self:=hs
section
variable {X : Cx} {tg : Expr}
end
section
variable {prog : Program} {w : World} {A : Around} {R : Result->Shared->Prop} {s : Shared}
theorem compLoop_gen {elt target iter : Expr} {ifs : List Expr} {scope : Scope} {pos : Pos} {it acc : Value} {env : Env} (I : Nat->Shared->Prop)
  (turn : ∀ n s,I n s->wpAny (model prog w) A (pyNext it) (fun r s₁=>match r with
   | none=>R (.ok .next) s₁
   | some v=>wpAny (model prog w) A (letOwnedTupleGo target it v) (fun _ s₁'=>wpAny (model prog w) A (assign target env v) (fun _ s₂=>
     wpAny (model prog w) A (forIn ifs true fun c r=>if r = true then do let ok <- isTrue c env (eval c env); pure (ForInStep.yield ok) else pure (ForInStep.yield r)) (fun ok s₃=>
      if ok = true then wpAny (model prog w) A (eval elt env) (fun x s₄=>
       wpAny (model prog w) A (call (.builtin "list.append") [acc,x]) (fun _ s₅=>∃ m,m < n /\ I m s₅) (fun _ _=>False) s₄) (fun _ _=>False) s₃
      else ∃ m,m < n /\ I m s₃) (fun _ _=>False) s₂) (fun _ _=>False) s₁') (fun _ _=>False) s₁) (fun _ _=>False) s)
  (n : Nat) (h : I n s) :
  codeAny (model prog w) A (.compLoop (.ListComp elt [⟨target,iter,ifs,0⟩] scope pos) 0 it acc env) R s:=by
 refine codeAny_loop rfl I (fun n s hI=>?_) n h
 show wpAny _ A ((compTurn (.ListComp elt [⟨target,iter,ifs,0⟩] scope pos) 0 it acc env).onRaise (fun x=>do noteFrame x env; theTreesLotGoes x)) _ _ s
 refine wpAny_noted ?_
 rw [compTurn_list]
 refine wpAny_bind (wpAny_standAt (wpAny_bind (wpAny_mono (turn n s hI) (fun r s₁ h₁=>?_) fun _ _ h'=>h'.elim)))
 cases r with
 | none=>exact wpAny_pure h₁
 | some v=>
  refine wpAny_bind (wpAny_mono h₁ (fun _ s₁' h₁'=>?_) fun _ _ h'=>h'.elim)
  refine wpAny_bind (wpAny_mono h₁' (fun _ s₂ h₂=>wpAny_bind (wpAny_mono h₂ (fun ok s₃ h₃=>?_) fun _ _ h'=>h'.elim)) fun _ _ h'=>h'.elim)
  cases ok with
  | false=>exact wpAny_pure ⟨rfl,h₃⟩
  | true=>
   exact wpAny_bind (wpAny_bind (wpAny_mono h₃ (fun x s₄ h₄=>wpAny_bind (wpAny_mono h₄ (fun _ s₅ h₅=>wpAny_pure (wpAny_pure ⟨rfl,h₅⟩)) fun _ _ h'=>h'.elim)) fun _ _ h'=>h'.elim))
end
def compCx (X : Cx) (N : List Str) (scope : Scope) (cl : List (Str × Addr)) (C : Addr) (s₀ : Shared) (H₀ : Hp) (ex : List Addr) : Cx:=
 { X with N:=N,s₀:=s₀,H₀:=H₀,env:=compEnvC scope cl C X.env,outer:=X.stack,stack:=X.stack,ex:=ex,fn:=fun _=>false,pn:=[],xe:=fun _ _=>False }
def PIfs (X : Cx) (ifs : List Expr) (t : TT) : Prop:=
 ∀ (pins : List (Addr × Obj)) (s : Shared) (σ : St) (H : Hp) (Q : Bool->Hp->Prop),Inv X pins σ H s->t σ H Q->
  wpAny (model X.prog X.w) X.A (forIn ifs true fun c r=>if r = true then do let ok <- isTrue c X.env (eval c X.env); pure (ForInStep.yield ok) else pure (ForInStep.yield r)) (TP X pins σ Q) X.xe s
def tYes : TT:=fun _ H Q=>Q true H
theorem pifs_nil {X : Cx} : PIfs X [] tYes:=fun pins s σ H Q I h=>wpAny_tests_nil ⟨H,I,h⟩
theorem pifs_one {X : Cx} {c : Expr} {t : TT} (h : PT X c t) : PIfs X [c] t:=fun pins s σ H Q I hq=>wpAny_tests_one (h pins s σ H Q I hq)
def tComp (wi : TI) (cs : St->St) (g : TG) (ti : TT) (te : TE) : TE:=fun σ H Q=>wi σ H fun J H1=>∃ W : Nat->Nat->List V->Hp->Prop,(∃ m,W 0 m [] H1) /\ ∀ i m ys H,W i m ys H->
 ys.length <= sizeLine /\ ((J.stop i H /\ ∀ p,H p = none->Q (.ref p) (upd H p (.lst ys))) \/
 (J.go i H /\ ∀ x H',J.yld i H x H'->g x (cs σ) H' fun σ2 H2=>ti σ2 H2 fun ok H3=>if ok = true then te σ2 H3 fun y H4=>∃ m',m' < m /\ W (i + 1) m' (ys++[y]) H4 else ∃ m',m' < m /\ W (i + 1) m' ys H3))
def csOf (nl : Nat) (js : List Nat) (σ : St) : St:=List.replicate nl none++js.map fun j=>(σ[j]?).join
structure CompOk (X : Cx) (N : List Str) (nl : Nat) (js : List Nat) (scope : Scope) (cl : List (Str × Addr)) : Prop where
 clos : closureFor scope X.env = pure cl
 nocell : ∀ y ∈ scope.names,y.2 ≠ .cell
 kind : scope.kind = .function
 names : ∀ y ∈ scope.names,y.2 = .local->scope.names.lookup y.1 = some .local
 cells : ∀ x c,cl.lookup x = some c->X.env.cells.lookup x = some c
 has : ∀ x,((relabel scope X.env).names.lookup x = some .cell \/ (relabel scope X.env).names.lookup x = some .free)->∃ c,cl.lookup x = some c
 len : N.length = nl + js.length
 free : ∀ k j x,js[k]? = some j->N[nl + k]? = some x->X.N[j]? = some x /\ (X.env.kindOf x = some .cell \/ X.env.kindOf x = some .free) /\ Vis X.env.scope x /\
  ((relabel scope X.env).names.lookup x = some .cell \/ (relabel scope X.env).names.lookup x = some .free)
 /-- the target stores own names alone -/
def KeepsT (g : TG) (cs : St->St) : Prop:=∀ (σ : St) (x : V) (H : Hp) (K : St->Hp->Prop),g x (cs σ) H K->g x (cs σ) H fun σ2 H2=>(σ2.length = (cs σ).length /\ ∀ (j : Nat) (v : V),(cs σ)[j]? = some (some v)->σ2[j]? = some (some v)) /\ K σ2 H2
theorem keeps_name {i nl : Nat} {js : List Nat} (hi : i < nl) : KeepsT (gName i) (csOf nl js):=fun σ x H K h=>by
 refine ⟨⟨by simp,fun j v e=>?_⟩,h⟩
 by_cases hj : j = i
 ·subst hj
  unfold csOf at e
  rw [List.getElem?_append_left (by simpa using hi),List.getElem?_replicate,if_pos hi] at e
  cases e
 ·rw [List.getElem?_set_ne (Ne.symm hj)]; exact e
section
variable {X : Cx}
theorem Inv.comp {pins : List (Addr × Obj)} {σ : St} {H : Hp} {s s4 : Shared} {N : List Str} {nl : Nat} {js : List Nat} {scope : Scope} {cl : List (Str × Addr)} {C D : Addr} {fp : List Addr} {oD : Obj} {m : Str->Option Value}
  (I : Inv X pins σ H s) (ok : CompOk X N nl js scope cl) (hf : ∀ b ∈ fp,FpOk X pins H b) (hfp : ∀ b ∈ fp,b < s.heap.objs.size) (hC : s.heap.objs.size <= C) (hD : s.heap.objs.size <= D) (hDC : D ≠ C)
  (ho : s4.os = s.os) (hg : AllBare s4.gens) (k : ∀ b o,s.heap.get? b = some o->s4.heap.get? b = some o) (hn : s4.heap.Ns C m) (hDo : s4.heap.get? D = some oD) (hDd : ∀ v,oD.data ≠ .cell v) :
  Inv (compCx X N scope cl C s H fp) [(D,oD)] (csOf nl js σ) H s4:=by
 have stk : ∀ b,s.heap.objs.size <= b->b ∉ frs X.stack:=fun b hb z=>by
  rcases List.mem_cons.mp (I.stkSub b z) with e | e
  ·rw [e] at hb; exact absurd (Nat.lt_of_lt_of_le I.lt hb) (Nat.lt_irrefl _)
  ·exact I.nofs hb e
 refine ⟨⟨I.ok.mod,ok.kind,I.ok.glob,I.ok.blt,hC,fun x y c h1 h2=>I.ok.inj x y c (ok.cells x c h1) (ok.cells y c h2),fun x h=>ok.has x h,(fun x c h=>nomatch h),I.ok.hd,I.ok.frames,.inl rfl,fun b hb=>⟨?_,fun x c e z=>?_⟩,I.bs,Nat.le_trans I.ok.bsz I.sz,fun b o e hb=>?_,fun b hb=>?_,I.stack,I.stkFree⟩,
  ho,hg,Un.kept k,⟨m,hn,fun i x v h1 h2 h3=>?_⟩,fun x c e=>?_,I.hok.fresh hC,fun x c e=>I.freeC x c (ok.cells x c e),fun p hp=>?_,I.hok.kept k,?_⟩
 ·exact Nat.ne_of_lt (Nat.lt_of_lt_of_le (hfp b hb) hC)
 ·exact (hf b hb).2.2.2.2.1 x c (ok.cells x c e) z
 ·have hb : b ∈ fp:=hb
  rcases (hf b hb).2.2.2.1 with z | z
  ·exact I.ok.noex b o e z
  ·exact absurd (Nat.lt_of_lt_of_le (Heap.lt_size e) (Nat.le_trans I.ok.bsz z)) (Nat.lt_irrefl _)
 ·have hb : b ∈ fp:=hb
  intro z
  rcases List.mem_cons.mp (I.stkSub b z) with e | e
  ·exact (hf b hb).2.1 e
  ·exact (hf b hb).2.2.1 e
 ·have h1 : N[i]? = some x:=h1
  unfold csOf at h2
  have hi : nl <= i:=by
   rcases Nat.lt_or_ge i nl with z | z
   ·rw [List.getElem?_append_left (by simpa using z),List.getElem?_replicate,if_pos z] at h2; cases h2
   ·exact z
  rw [List.getElem?_append_right (by simpa using hi),List.length_replicate,List.getElem?_map] at h2
  cases ej : js[i - nl]? with
  | none=>rw [ej] at h2; cases h2
  | some j=>
   rw [ej] at h2
   have h2' : (σ[j]?).join = some v:=by simpa using h2
   have e2 : σ[j]? = some (some v):=by
    cases q : σ[j]? with
    | none=>rw [q] at h2'; cases h2'
    | some y=>rw [q] at h2'; rw [show y = some v from h2']
   obtain ⟨g1,g2,g3,g4⟩:=ok.free (i - nl) j x ej (by rw [Nat.add_sub_cancel' hi]; exact h1)
   obtain ⟨m0,hn0,hl⟩:=I.loc
   obtain ⟨u,r,l⟩:=hl j x v g1 e2 g3
   refine ⟨u,r,.inr ⟨g4,?_⟩⟩
   rcases l with ⟨lk,_⟩ | ⟨_,c,ec,ic⟩
   ·rcases g2 with z | z <;> (rw [z] at lk; cases lk)
   ·obtain ⟨c',ec'⟩:=ok.has x g4
    have : c' = c:=Option.some.inj ((ok.cells x c' ec').symm.trans ec)
    subst this
    obtain ⟨oc,hoc,hd⟩:=ic
    exact ⟨c',ec',oc,k _ _ hoc,hd⟩
 ·obtain ⟨v,oc,hoc,hd⟩:=I.cell x c (ok.cells x c e)
  exact ⟨v,oc,k _ _ hoc,hd⟩
 ·have hp : p ∈ [(D,oD)]:=hp
  have e : p = (D,oD):=by simpa using hp
  subst e
  exact ⟨hDo,I.hok.fresh hD,hDC,stk D hD,hDd⟩
 ·show (csOf nl js σ).length = N.length
  unfold csOf
  rw [List.length_append,List.length_replicate,List.length_map]
  exact ok.len.symm
def CompEnd (X : Cx) (pins : List (Addr × Obj)) (σ : St) (Q : VK) (acc : Value) (C : Addr) (s' : Shared) : Prop:=
 ∃ D H' m,acc = .ref D /\ Inv X pins σ H' s' /\ FpOk X pins H' C /\ s'.heap.Ns C m /\ Q (.ref D) H'
theorem comp_run {N : List Str} {nl : Nat} {js : List Nat} {scope : Scope} {cl : List (Str × Addr)} {elt target iter : Expr} {ifs : List Expr} {pos : Pos} {wi : TI} {g : TG} {ti : TT} {te : TE} {pins : List (Addr × Obj)} {s : Shared} {σ : St} {H : Hp} {Q : VK}
  {E : Value->Shared->Prop} (RR : Value->Addr->Result->Shared->Prop) (hRR : ∀ acc C s',CompEnd X pins σ Q acc C s'->RR acc C (.ok .next) s')
  (hc : X.calm = true) (ok : CompOk X N nl js scope cl) (hi : PI X target iter wi) (hk : KeepsT g (csOf nl js))
  (hg : ∀ C s₀ H₀ ex,PG (compCx X N scope cl C s₀ H₀ ex) target g) (ht : ∀ C s₀ H₀ ex,PIfs (compCx X N scope cl C s₀ H₀ ex) ifs ti) (he : ∀ C s₀ H₀ ex,PE (compCx X N scope cl C s₀ H₀ ex) elt te)
  (I : Inv X pins σ H s) (h : tComp wi (csOf nl js) g ti te σ H Q) :
  wpAny (model X.prog X.w) X.A (eval iter X.env) (fun x s₁=>wpAny (model X.prog X.w) X.A (pyIter x) (fun it s₂=>wpAny (model X.prog X.w) X.A (newList []) (fun acc s₃=>
   wpAny (model X.prog X.w) X.A (newFunctionEnv scope X.env.globals cl [] X.env.qual none .none (some X.env)) (fun cenv s₄=>
    codeAny (model X.prog X.w) X.A (.compStart (.ListComp elt [⟨target,iter,ifs,0⟩] scope pos) 0 it acc { cenv with scope:=relabel scope X.env }) (RR acc cenv.locals) s₄) E s₃) E s₂) X.xe s₁) X.xe s:=by
 refine thn (hi pins s σ H _ I h) fun v s1 h1=>thn h1 fun itv s2 h2=>?_
 obtain ⟨it,fp,tn,J,H2,e,I2,T,st2,f2,W,⟨m0,w0⟩,turn⟩:=h2
 subst e
 have hfp : ∀ b ∈ fp,b < s2.heap.objs.size:=fun b hb=>by
  obtain ⟨o,e,_⟩:=T.obj _ _ st2 b hb
  exact Heap.lt_size e
 refine wpAny_newObj_type (wpAny_newFunctionEnv ok.nocell (by intro y hy; simp at hy) (fun h₁ hns₁ hsb₁=>?_) ok.kind)
 dsimp only at hns₁ hsb₁ ⊢
 generalize hP2 : s2.heap.push { cls:=.type "list",dict:=none,data:=.seq ([] : List Value).toArray } = P2 at hns₁ hsb₁ ⊢
 have hC : P2.objs.size = s2.heap.objs.size + 1:=by rw [<- hP2,Heap.size_push]
 have hDC : s2.heap.objs.size ≠ P2.objs.size:=by rw [hC]; exact Nat.ne_of_lt (Nat.lt_succ_self _)
 have hCle : s2.heap.objs.size <= P2.objs.size:=by rw [hC]; exact Nat.le_succ _
 have below : ∀ b,b < s2.heap.objs.size->b ≠ P2.objs.size /\ b ≠ s2.heap.objs.size:=fun b hb=>⟨by rw [hC]; exact Nat.ne_of_lt (Nat.lt_succ_of_lt hb),Nat.ne_of_lt hb⟩
 have old : ∀ b o,s2.heap.get? b = some o->h₁.get? b = some o:=fun b o e=>hsb₁.extBut b o (below b (Heap.lt_size e)).1 (Heap.get?_push_of_some _ (hP2 ▸ Heap.get?_push_of_some _ e))
 have hacc : h₁.PlainList s2.heap.objs.size #[]:=⟨_,hsb₁.extBut _ _ hDC (Heap.get?_push_of_some _ (hP2 ▸ Heap.get?_push_size _ rfl))⟩
 obtain ⟨n0,ha0⟩:=hacc
 generalize hCC : P2.objs.size = C at *
 generalize hDD : s2.heap.objs.size = D at *
 -- the block's context
 have I4 : Inv (compCx X N scope cl C s2 H2 fp) [(D,{ cls:=.type "list",data:=.seq ([] : List Value).toArray n0 })] (csOf nl js σ) H2 { s2 with heap:=h₁,toks:=s2.toks + ([] : List (Str × Value)).length }:=
  I2.comp ok f2 (fun b hb=>by rw [hDD]; exact hfp b hb) (by rw [hDD]; exact hCle) (by rw [hDD]; exact Nat.le_refl _) hDC rfl I2.bare old hns₁ ha0 (fun v z=>nomatch z)
 have st4 : tn 0 h₁:=T.keep _ _ _ st2 fun b hb o e=>old b o e
 -- what stays true of the records
 have nD : ∀ b ∈ fp,b ≠ D:=fun b hb=>Nat.ne_of_lt (hfp b hb)
 have nC : ∀ b ∈ fp,b ≠ C:=fun b hb=>(below b (hfp b hb)).1
 have stkD : ∀ b,D <= b->b ∉ frs X.stack:=fun b hb z=>by
  rcases List.mem_cons.mp (I2.stkSub b z) with e | e
  ·rw [e] at hb; exact absurd (Nat.lt_of_lt_of_le I2.lt (by rw [hDD]; exact hb)) (Nat.lt_irrefl _)
  ·exact I2.nofs (by rw [hDD]; exact hb) e
 have cellD : ∀ x c b,D <= b->cl.lookup x = some c->c ≠ b:=fun x c b hb e z=>by
  obtain ⟨v,q⟩:=I2.cell x c (ok.cells x c e)
  exact absurd (Nat.lt_of_lt_of_le q.lt (by rw [z,hDD]; exact hb)) (Nat.lt_irrefl _)
 have stat : ∀ {H' : Hp} {oD : Obj},(∀ b ∈ fp,H' b = none)->∀ b ∈ fp,FpOk (compCx X N scope cl C s2 H2 fp) [(D,oD)] H' b:=fun {H' oD} hn b hb=>by
  refine ⟨hn b hb,nC b hb,fun z=>?_,.inl hb,fun x c e z=>(f2 b hb).2.2.2.2.1 x c (ok.cells x c e) z,fun p hp z=>?_⟩
  ·have z : b ∈ frs X.stack:=z
   rcases List.mem_cons.mp (I2.stkSub b z) with e | e
   ·exact (f2 b hb).2.1 e
   ·exact (f2 b hb).2.2.1 e
  ·have hp : p = (D,oD):=by simpa [compCx] using hp
   subst hp
   exact nD b hb z.symm
 have loop : ∀ s₃ : Shared,s₃ = { s2 with heap:=h₁,toks:=s2.toks + ([] : List (Str × Value)).length }->
   codeAny (model X.prog X.w) X.A (.compLoop (.ListComp elt [⟨target,iter,ifs,0⟩] scope pos) 0 (.ref it) (.ref D) (compEnvC scope cl C X.env)) (RR (.ref D) C) s₃:=by
  rintro s₃ rfl
  refine compLoop_gen (env:=compEnvC scope cl C X.env) (fun n s'=>∃ i ys us nn H',Inv (compCx X N scope cl C s2 H2 fp) [(D,{ cls:=.type "list",data:=.seq (us : List Value).toArray nn })] (csOf nl js σ) H' s' /\ Vals ys us /\ tn i s'.heap /\ (∀ b ∈ fp,H' b = none) /\ W i n ys H')
   ?_ m0 ⟨0,[],[],n0,H2,I4,.nil,st4,fun b hb=>(f2 b hb).1,w0⟩
  rintro n s3 ⟨i,ys,us,nn,H3,I3,rv3,st3,fr3,w3⟩
  obtain ⟨hsz,tr⟩:=turn i n ys H3 w3
  rcases tr with ⟨stop,qn⟩ | ⟨go,step⟩
  ·refine wpAny_mono (T.done (compCx X N scope cl C s2 H2 fp) rfl rfl rfl hc i _ s3 (csOf nl js σ) H3 (fun _ _=>False) I3 (stat fr3) st3 stop) (fun r s4 hr=>?_) fun _ _ z=>z
   obtain ⟨rfl,J4⟩:=hr
   show RR (.ref D) C (.ok .next) s4
   obtain ⟨pD,pfree,_,_,_⟩:=J4.pin (D,{ cls:=.type "list",data:=.seq (us : List Value).toArray nn }) (by simp [compCx])
   obtain ⟨mC,hnC,_⟩:=J4.loc
   have hnC : s4.heap.Ns C mC:=hnC
   have ltH : ∀ b o,H2 b = some o->b ≠ D:=fun b o e=>by have:=I2.hok.lt e; rw [hDD] at this; exact Nat.ne_of_lt this
   have ltg : ∀ b o,s2.heap.get? b = some o->b ≠ D:=fun b o e=>by have:=Heap.lt_size e; rw [hDD] at this; exact Nat.ne_of_lt this
   have B : Un (frs X.stack) fp H2 H3 s2.heap s4.heap:=J4.base
   have un : Un (frs X.stack) fp H2 (upd H3 D (.lst ys)) s2.heap s4.heap:=
    ⟨B.keep,B.slot,fun b o e n x=>by rw [upd_ne (ltg b o e)]; exact B.free b o e n x,B.there,fun b xs e=>by rw [upd_ne (ltH b _ e)]; exact B.tups b xs e,
     fun b o u e=>by rw [upd_ne (ltH b _ e)]; exact B.frzs b o u e,fun b ps e=>by rw [upd_ne (ltH b _ e)]; exact B.tbls b ps e⟩
   have hokD : HOk X.prog X.w (upd H3 D (.lst ys)) s4.heap:=fun b u e=>by
    by_cases hb : b = D
    ·subst hb
     rw [upd_same] at e
     cases e
     exact ⟨hsz,us,nn,rv3,pD⟩
    ·rw [upd_ne hb] at e
     refine (J4.hok b u e).stay (fun c v _ q=>q) (fun c q=>?_) fun c xs q=>?_
     ·rw [upd_ne (ne_of_none q pfree)]; exact q
     ·rw [upd_ne (ne_of_none q pfree)]; exact q
   refine hRR _ _ _ ⟨D,upd H3 D (.lst ys),mC,rfl,I2.call' (ch:=fp) J4.os un hokD J4.bare (fun b hb=>⟨(f2 b hb).2.2.2.1,(f2 b hb).2.1,(f2 b hb).2.2.2.2.1,(f2 b hb).2.2.2.2.2⟩),?_,hnC,qn D pfree⟩
   have hCn : H3 C = none:=J4.free
   refine ⟨by rw [upd_ne hDC.symm]; exact hCn,?_,?_,.inr ?_,fun x c e z=>?_,fun p hp z=>?_⟩
   ·exact Nat.ne_of_gt (Nat.lt_of_lt_of_le I2.lt (by rw [hDD]; exact hCle))
   ·exact I2.nofs (by rw [hDD]; exact hCle)
   ·exact Nat.le_trans I2.sz (by rw [hDD]; exact hCle)
   ·obtain ⟨v,q⟩:=I2.cell x c e
    exact absurd (Nat.lt_of_lt_of_le q.lt (by rw [z,hDD]; exact hCle)) (Nat.lt_irrefl _)
   ·exact absurd (Nat.lt_of_lt_of_le (Heap.lt_size (I2.pin p hp).1) (by rw [z,hDD]; exact hCle)) (Nat.lt_irrefl _)
  ·refine wpAny_mono (T.item (compCx X N scope cl C s2 H2 fp) rfl rfl rfl hc i _ s3 (csOf nl js σ) H3 (fun _ _=>False) I3 (stat fr3) st3 go) (fun r s4 hr=>?_) fun _ _ z=>z
   obtain ⟨u,rfl,h4⟩:=hr
   show wpAny (model X.prog X.w) X.A (letOwnedTupleGo target (.ref it) u) _ _ s4
   refine thn h4 fun _ s5 ⟨x,H5,I5,r5,y5,st5,fr5⟩=>?_
   have I5':=I5.pinned (stat fr5) (T.obj _ _ st5)
   refine thn (hg C s2 H2 fp _ s5 (csOf nl js σ) H5 x u _ I5' r5 (hk σ x H5 _ (step x H5 y5))) fun _ s6 ⟨σ6,H6,I6,⟨hl6,hs6⟩,q6⟩=>?_
   refine thn (ht C s2 H2 fp _ s6 σ6 H6 _ I6 q6) fun okb s7 ⟨H7,I7,q7⟩=>?_
   -- the iterator and the list are pinned through
   have back : ∀ {H8 : Hp} {s8 : Shared},Inv (compCx X N scope cl C s2 H2 fp) ([(D,{ cls:=.type "list",data:=.seq (us : List Value).toArray nn })]++pinsAt fp s5.heap) σ6 H8 s8->
     Inv (compCx X N scope cl C s2 H2 fp) [(D,{ cls:=.type "list",data:=.seq (us : List Value).toArray nn })] (csOf nl js σ) H8 s8 /\ tn (i + 1) s8.heap /\ ∀ b ∈ fp,H8 b = none:=fun {H8 s8} I8=>by
    refine ⟨I8.unpinned.weak hl6.symm hs6,T.keep _ _ _ st5 fun b hb o e=>(I8.pin (b,o) (List.mem_append_right _ (List.mem_append_right _ (mem_pinsAt hb e)))).1,fun b hb=>?_⟩
    obtain ⟨o,e,d⟩:=T.obj _ _ st5 b hb
    exact (I8.pin (b,o) (List.mem_append_right _ (List.mem_append_right _ (mem_pinsAt hb e)))).2.1
   cases okb with
   | false=>
    have q7 : ∃ m',m' < n /\ W (i + 1) m' ys H7:=by simpa using q7
    obtain ⟨m',hm,w7⟩:=q7
    obtain ⟨I8,st8,fr8⟩:=back I7
    show ∃ m,m < n /\ _
    exact ⟨m',hm,i + 1,ys,us,nn,H7,I8,rv3,st8,fr8,w7⟩
   | true=>
    have q7 : te σ6 H7 fun y H4=>∃ m',m' < n /\ W (i + 1) m' (ys++[y]) H4:=by simpa using q7
    show wpAny (model X.prog X.w) X.A (eval elt (compEnvC scope cl C X.env)) _ _ s7
    refine thn (he C s2 H2 fp _ s7 σ6 H7 _ I7 q7) fun yv s8 ⟨y,H8,I8,ry,m',hm,w8⟩=>?_
    obtain ⟨I9,st9,fr9⟩:=back I8
    obtain ⟨pD,pfree,pne,pnf,_⟩:=I9.pin (D,{ cls:=.type "list",data:=.seq (us : List Value).toArray nn }) (by simp [compCx])
    refine wpAny_list_append_plain (items:=us.toArray) ⟨nn,pD⟩ (fun h' hp' sb=>?_) (by have:=rv3.length; simp; omega)
    obtain ⟨n',hp'⟩:=hp'
    have I10 : Inv (compCx X N scope cl C s2 H2 fp) [] (csOf nl js σ) H8 { s8 with heap:=h' }:=by
     refine (I9.pins_of (pins':=[]) (fun p hp=>absurd hp (by simp))).turned (t':=s8.toks) (it:=D) (fun b o hb e=>(sb.2 b hb).trans e) pfree pne (.inr (by show s2.heap.objs.size <= D; rw [hDD]; exact Nat.le_refl _)) (fun x c e=>cellD x c D (Nat.le_refl _) e) (fun p hp=>?_)
     exact absurd hp (by simp [compCx])
    refine ⟨m',hm,i + 1,ys++[y],us++[yv],n',H8,I10.pins_of (fun p hp=>?_),rv3.append (.cons ry .nil),T.keep _ _ _ st9 fun b hb o e=>(sb.2 b (nD b hb)).trans e,fr9,w8⟩
    have e : p = (D,{ cls:=.type "list",data:=.seq (us++[yv]).toArray n' }):=by simpa using hp
    subst e
    exact ⟨by simpa using hp',pfree,pne,pnf,fun v z=>nomatch z⟩
 exact codeAny_compStart_list (loop _ rfl) (T.self _ 0 _ _ _ st4 (loop _ rfl))
theorem pe_comp {N : List Str} {nl : Nat} {js : List Nat} {scope : Scope} {cl : List (Str × Addr)} {elt target iter : Expr} {ifs : List Expr} {pos : Pos} {wi : TI} {g : TG} {ti : TT} {te : TE}
  (hc : X.calm = true) (ok : CompOk X N nl js scope cl) (hi : PI X target iter wi) (hk : KeepsT g (csOf nl js))
  (hg : ∀ C s₀ H₀ ex,PG (compCx X N scope cl C s₀ H₀ ex) target g) (ht : ∀ C s₀ H₀ ex,PIfs (compCx X N scope cl C s₀ H₀ ex) ifs ti) (he : ∀ C s₀ H₀ ex,PE (compCx X N scope cl C s₀ H₀ ex) elt te)
  (hs : ∀ x,foldedSetIterable iter X.env x = pure x:=by intro _; rfl) :
  PE X (.ListComp elt [⟨target,iter,ifs,0⟩] scope pos) (tComp wi (csOf nl js) g ti te):=by
 intro pins s σ H Q I h
 rw [eval_ListComp]
 refine wpAny_comprehension_free (use:=none) rfl hs ok.clos ok.kind ok.names (wpAny_mono (comp_run (E:=X.xe) (pos:=pos) (fun acc C=>compPost (model X.prog X.w) X.A X.xe none (EP X pins σ Q) acc C) (fun acc C s' z=>?_) hc ok hi hk hg ht he I h) (fun _ _ z=>z) fun _ _ z=>z)
 obtain ⟨D,H',m,rfl,J,fC,hn,q⟩:=z
 refine ⟨m,hn,fun h' sb=>⟨.ref D,H',J.turned (t':=s'.toks) (fun b o hb e=>(sb.2 b hb).trans e) fC.1 fC.2.1 fC.2.2.2.1 fC.2.2.2.2.1 fC.2.2.2.2.2,rfl,q⟩⟩
theorem ps_setcomp {N : List Str} {nl : Nat} {js : List Nat} {scope : Scope} {cl : List (Str × Addr)} {elt target iter : Expr} {ifs : List Expr} {pos spos py : Pos} {wi : TI} {g : TG} {ti : TT} {te : TE} {i : Nat} {y : Str}
  (hN : X.N.Nodup) (hi' : X.N[i]? = some y) (hy : Loc X.env.scope y) (hyl : X.env.scope.names.lookup y = some .local)
  (hc : X.calm = true) (ok : CompOk X N nl js scope cl) (hi : PI X target iter wi) (hk : KeepsT g (csOf nl js))
  (hg : ∀ C s₀ H₀ ex,PG (compCx X N scope cl C s₀ H₀ ex) target g) (ht : ∀ C s₀ H₀ ex,PIfs (compCx X N scope cl C s₀ H₀ ex) ifs ti) (he : ∀ C s₀ H₀ ex,PE (compCx X N scope cl C s₀ H₀ ex) elt te)
  (hsw : swapsWith (.ListComp elt [⟨target,iter,ifs,0⟩] scope pos) (some (.Name y py)) spos.line X.env = pure true:=by rfl)
  (hs : ∀ x,foldedSetIterable iter X.env x = pure x:=by intro _; rfl) :
  PS X (.Assign [.Name y py] (.ListComp elt [⟨target,iter,ifs,0⟩] scope pos) spos) (tAsg (tComp wi (csOf nl js) g ti te) (gName i)):=by
 intro pins s σ H D I h
 rw [exec_Assign_Name_used _ _ _ _ hsw]
 refine wpAny_bind (wpAny_standAt (wpAny_bind ?_))
 show wpAny _ X.A (do let _ <- comprehension (.ListComp elt [⟨target,iter,ifs,0⟩] scope pos) scope X.env _ (newList []) false (eval iter X.env) (some (assign (.Name y py) X.env))) _ _ s
 refine wpAny_bind (wpAny_mono (wpAny_comprehension_free (use:=some (assign (.Name y py) X.env)) (Q:=fun _ s'=>SP X pins D .next s') rfl hs ok.clos ok.kind ok.names
  (comp_run (E:=X.xe) (pos:=pos) (fun acc C=>compPost (model X.prog X.w) X.A X.xe (some (assign (.Name y py) X.env)) (fun _ s'=>SP X pins D .next s') acc C) (fun acc C s' z=>?_) hc ok hi hk hg ht he I h)) (fun _ s' hq=>wpAny_pure (wpAny_pure hq)) fun _ _ e=>e)
 obtain ⟨D',H',m,rfl,J,fC,hn,q⟩:=z
 show wpAny _ X.A (assign (.Name y py) X.env (.ref D')) _ _ _
 refine wpAny_assign_Name (store_ok2 J hN hi' hy (v:=.ref D') rfl (fun s'' J' hsb=>?_) (.inr hyl))
 obtain ⟨a,sb,ha⟩:=hsb
 have hCa : C ≠ a:=by
  rcases ha with rfl | ha
  ·exact fC.2.1
  ·exact fun z=>fC.2.2.2.2.1 y a ha z.symm
 refine ⟨m,hn.sameBut sb hCa,fun h' sb'=>?_⟩
 exact ⟨_,H',J'.turned (t':=s''.toks) (fun b o hb e=>(sb'.2 b hb).trans e) fC.1 fC.2.1 fC.2.2.2.1 fC.2.2.2.2.1 fC.2.2.2.2.2,q⟩
end
section
variable {κ : Type} [DecidableEq κ]
def valV (kvs : List (κ × V)) (k : κ) : Option V:=(kvs.find? fun kv=>decide (kv.1 = k)).map (·.2)
theorem valV_pos {p : κ × V} {r : List (κ × V)} {k : κ} (e : p.1 = k) : valV (p::r) k = some p.2:=by simp [valV,List.find?_cons,e]
theorem valV_neg {p : κ × V} {r : List (κ × V)} {k : κ} (e : ¬ p.1 = k) : valV (p::r) k = valV r k:=by simp [valV,List.find?_cons,e]
theorem RelO.isSome_eq {o : Option V} {u : Option Value} (r : RelO o u) : o.isSome = u.isSome:=by
 cases o with
 | none=>cases u with
  | none=>rfl
  | some _=>exact (show False from r).elim
 | some _=>cases u with
  | none=>exact (show False from r).elim
  | some _=>rfl
theorem KV.val {kvs : List (κ × V)} {vs : List (κ × Value)} (r : KV kvs vs) (k : κ) : RelO (valV kvs k) (valueAt vs k):=by
 unfold KV at r
 induction r with
 | nil=>exact True.intro
 | @cons p q ps qs h t ih=>
  obtain ⟨h1,h2⟩:=h
  by_cases e : p.1 = k
  ·have e' : q.1 = k:=h1.symm.trans e
   have b : valueAt (q::qs) k = some q.2:=by simp [valueAt,List.find?_cons,e']
   rw [valV_pos e,b]; exact h2
  ·have e' : ¬ q.1 = k:=fun z=>e (h1.trans z)
   have b : valueAt (q::qs) k = valueAt qs k:=by simp [valueAt,List.find?_cons,e']
   rw [valV_neg e,b]; exact ih
theorem KV.length {kvs : List (κ × V)} {vs : List (κ × Value)} (r : KV kvs vs) : kvs.length = vs.length:=Paired.length r
end
theorem kV_is {P : Program} {w : World} {k : Key} {u : Value} (r : RelV (kV k) u) : (mixKind P w).is k u = true:=by
 cases k with
 | inl i=>obtain ⟨t,e⟩:=(show ∃ t,u = Value.int i t from r); subst e; exact mixKind_int P w i t
 | inr x=>obtain ⟨t,e⟩:=(show ∃ t,u = Value.str x t from r); subst e; exact mixKind_str P w x t
theorem items_are {P : Program} {w : World} : ∀ {ks : List Key} {us : List Value},Vals (ks.map kV) us->ItemsAre (mixKind P w) ks us
 | [],_,r=>by rw [List.map_nil] at r; cases r; exact .nil
 | k::ks,_,r=>by
  rw [List.map_cons] at r
  cases r with
  | cons h t=>exact .cons (kV_is h) (items_are t)
abbrev KT (H : Hp) : List (List Key × V)->List (List Key × Addr × Value)->Prop:=Paired fun p q=>p.1 = q.1 /\ H q.2.1 = some (.tup (p.1.map kV)) /\ RelV p.2 q.2.2
theorem KT.val {H : Hp} {kvs : List (List Key × V)} {xs : List (List Key × Addr × Value)} (r : KT H kvs xs) (k : List Key) : RelO (valV kvs k) ((atKey xs k).map (·.2)):=by
 induction r with
 | nil=>exact True.intro
 | @cons p q ps qs h t ih=>
  obtain ⟨h1,_,h2⟩:=h
  by_cases e : p.1 = k
  ·have e' : q.1 = k:=h1.symm.trans e
   have b : atKey (q::qs) k = some q.2:=by simp [atKey,List.find?_cons,e']
   rw [valV_pos e,b]; exact h2
  ·have e' : ¬ q.1 = k:=fun z=>e (h1.trans z)
   have b : atKey (q::qs) k = atKey qs k:=by simp [atKey,List.find?_cons,e']
   rw [valV_neg e,b]; exact ih
section
variable {P : Program} {w : World} {H : Hp} {h : Heap} {a : Addr}
theorem rd_of {u : HO} (ok : HOk P w H h) (e : Rd H a u) : ObjOk P w H h a u:=e.ok ok
theorem dk_rd {kvs : List (Key × V)} (ok : HOk P w H h) (e : Rd H a (.dK kvs)) : kvs.length <= sizeLine /\ (a == sysModules) = false /\ ∃ vs,KV kvs vs /\ h.DictOf (mixKind P w) a vs:=
 show ObjOk P w H h a (.dK kvs) from rd_of ok e
theorem key_of {ks : List Key} (ok : HOk P w H h) (e : H a = some (.tup (ks.map kV))) : (tupleKind (mixKind P w)).is h ks a:=by
 obtain ⟨_,its,r,o,h1,h2,n,h3⟩:=(show ObjOk P w H h a (.tup (ks.map kV)) from ok a _ e)
 exact ⟨o,its.toArray,n,h1,h2,h3,by simpa using items_are r⟩
theorem dt_rd {kvs : List (List Key × V)} (ok : HOk P w H h) (e : Rd H a (.dT kvs)) : kvs.length <= sizeLine /\ (a == sysModules) = false /\
  ∃ xs,KT H kvs xs /\ h.DictOfH (tupleKind (mixKind P w)) a xs:=by
 obtain ⟨z,y,xs,r,o,es,ep,h1,h2,h3,h4,h5⟩:=(show ObjOk P w H h a (.dT kvs) from rd_of ok e)
 refine ⟨z,y,xs,r,o,es,ep,h1,h2,h3,h4,fun x hx=>?_,h5⟩
 have all : ∀ {l : List (List Key × V)} {m : List (List Key × Addr × Value)},KT H l m->∀ x ∈ m,(tupleKind (mixKind P w)).is h x.1 x.2.1:=by
  intro l m q
  induction q with
  | nil=>intro x hx; exact nomatch hx
  | @cons p q ps qs hq t ih=>
   intro x hx
   rcases List.mem_cons.mp hx with e | hx
   ·subst e
    exact key_of ok (by rw [<- hq.1]; exact hq.2.1)
   ·exact ih x hx
 exact all r x hx
end
def DGet (H : Hp) (a : Addr) (y : V) (r : Option V) : Prop:=
 (∃ kvs k,Rd H a (.dK kvs) /\ y = kV k /\ r = valV kvs k) \/ ∃ kvs k b,Rd H a (.dT kvs) /\ y = .ref b /\ H b = some (.tup (k.map kV)) /\ r = valV kvs k
section
variable {X : Cx} {pins : List (Addr × Obj)} {σ : St} {H : Hp} {s : Shared} {a : Addr} {y v : V} {u r : Value} {o : Option V} {A : Around} {E : Value->Shared->Prop}
theorem d_getItem {Q : Value->Shared->Prop} (hu : A.units + 1 < cLine) (I : Inv X pins σ H s) (g : DGet H a y (some v)) (ry : RelV y u) (h : ∀ w' s',Inv X pins σ H s'->RelV v w'->Q w' s') :
  wpAny (model X.prog X.w) A (getItem (.ref a) u) Q E s:=by
 rcases g with ⟨kvs,k,e,ey,l⟩ | ⟨kvs,k,b,e,ey,eb,l⟩
 ·subst ey
  obtain ⟨z,hd,vs,rel,dd⟩:=dk_rd I.hok e
  obtain ⟨w',hw,rw'⟩:=RelO.some_of (v:=v) (o:=valueAt vs k) (by rw [l]; exact rel.val k)
  exact wpAny_getItem_of (kV_is ry) dd.mapOf hw (h w' _ (I.tok _) rw')
 ·subst ey
  cases (show u = Value.ref b from ry)
  obtain ⟨z,hd,xs,rel,dd⟩:=dt_rd I.hok e
  obtain ⟨w',hw,rw'⟩:=RelO.some_of (v:=v) (o:=(atKey xs k).map (·.2)) (by rw [l]; exact rel.val k)
  obtain ⟨p,hp,hp2⟩:=omE hw
  refine wpAny_getItem_heap (tupleKind_room_in1 hu) (key_of I.hok eb) dd hp ?_
  rw [hp2]
  exact h w' _ (I.tok _) rw'
theorem d_in {Q : Value->Shared->Prop} (hu : A.units + 1 < cLine) (I : Inv X pins σ H s) (g : DGet H a y o) (ry : RelV y u) (h : ∀ s',Inv X pins σ H s'->Q (.bool o.isSome) s') :
  wpAny (model X.prog X.w) A (compareOp .In u (.ref a)) Q E s:=by
 rcases g with ⟨kvs,k,e,ey,l⟩ | ⟨kvs,k,b,e,ey,eb,l⟩
 ·subst ey
  obtain ⟨z,hd,vs,rel,dd⟩:=dk_rd I.hok e
  refine wpAny_in_of (kV_is ry) hd dd.mapOf ?_
  rw [<- (rel.val k).isSome_eq,<- l]
  exact h _ (I.tok _)
 ·subst ey
  cases (show u = Value.ref b from ry)
  obtain ⟨z,hd,xs,rel,dd⟩:=dt_rd I.hok e
  refine wpAny_in_heap (tupleKind_room_in1 hu) (key_of I.hok eb) hd dd ?_
  have q:=(rel.val k).isSome_eq
  rw [Option.isSome_map] at q
  rw [<- q,<- l]
  exact h _ (I.tok _)
theorem d_notIn {Q : Value->Shared->Prop} (hu : A.units + 1 < cLine) (I : Inv X pins σ H s) (g : DGet H a y o) (ry : RelV y u) (h : ∀ s',Inv X pins σ H s'->Q (.bool (!o.isSome)) s') :
  wpAny (model X.prog X.w) A (compareOp .NotIn u (.ref a)) Q E s:=by
 rcases g with ⟨kvs,k,e,ey,l⟩ | ⟨kvs,k,b,e,ey,eb,l⟩
 ·subst ey
  obtain ⟨z,hd,vs,rel,dd⟩:=dk_rd I.hok e
  refine wpAny_notIn_of (kV_is ry) hd dd.mapOf ?_
  rw [<- (rel.val k).isSome_eq,<- l]
  exact h _ (I.tok _)
 ·subst ey
  cases (show u = Value.ref b from ry)
  obtain ⟨z,hd,xs,rel,dd⟩:=dt_rd I.hok e
  refine wpAny_notIn_heap (tupleKind_room_in1 hu) (key_of I.hok eb) hd dd ?_
  have q:=(rel.val k).isSome_eq
  rw [Option.isSome_map] at q
  rw [<- q,<- l]
  exact h _ (I.tok _)
end
section
variable {X : Cx} {pins : List (Addr × Obj)} {σ : St} {H : Hp} {s : Shared} {a : Addr} {kvs : List (Key × V)} {k : Key} {u : Value} {A : Around} {E : Value->Shared->Prop}
theorem d_len {Q : Value->Shared->Prop} (I : Inv X pins σ H s) (e : Rd H a (.dK kvs)) (h : ∀ t s',Inv X pins σ H s'->Q (.int kvs.length t) s') : wpAny (model X.prog X.w) A (call (.builtin "len") [.ref a]) Q E s:=by
 obtain ⟨z,hd,vs,rel,dd⟩:=dk_rd I.hok e
 refine call_len_dict hd dd (by rw [<- rel.length]; rw [sizeLine_eq] at z; omega) ?_
 rw [<- rel.length]
 exact h _ _ (I.tok _)
end
theorem dict_typeIs {X : Cx} {pins : List (Addr × Obj)} {σ : St} {H : Hp} {s : Shared} {a : Addr} {y : V} {o : Option V} (I : Inv X pins σ H s) (g : DGet H a y o) : s.TypeIs (.ref a) "dict":=by
 rcases g with ⟨kvs,k,e,_,_⟩ | ⟨kvs,k,b,e,_,_,_⟩
 ·obtain ⟨_,_,vs,_,dd⟩:=dk_rd I.hok e
  exact dd.typeIs
 ·obtain ⟨_,_,xs,_,dd⟩:=dt_rd I.hok e
  exact dd.typeIs
section
variable {X : Cx} {o i e value : Expr} {pos pos' tpos : Pos} {td ty tv : TE}
end
section
variable {X : Cx} {pos : Pos}
end
section
variable {X : Cx} {pins : List (Addr × Obj)} {σ : St} {H : Hp} {s : Shared} {a : Addr} {y d : V} {u r : Value} {o : Option V} {A : Around} {E : Value->Shared->Prop}
end
section
variable {X : Cx} {o e f : Expr} {apos cpos : Pos} {td ty tx : TE}
end
section
variable {X : Cx} {pins : List (Addr × Obj)} {σ : St} {H : Hp} {s : Shared} {a : Addr} {kvs : List (Key × V)} {A : Around} {E : Value->Shared->Prop}
end
section
variable {X : Cx} {pins : List (Addr × Obj)} {σ : St} {H : Hp} {s : Shared} {a : Addr} {y : V} {u : Value} {A : Around} {E : Value->Shared->Prop}
end
section
variable {X : Cx}
end
section
variable {κ : Type} [DecidableEq κ]
end
theorem exg_bind (e : Addr) : bindSpecial (.builtin "BaseException.__getattribute__") (.ref e) = pure (.builtin "BaseException.__getattribute__",[.ref e]):=by rfl
theorem exg_entry : entryFor table "BaseException.__getattribute__" = some Builtin.«object.__getattribute__»:=by kernel_rfl
theorem exg_plain : plainId "BaseException.__getattribute__" = true:=by kernel_rfl
theorem exg_kind : builtinKind "BaseException.__getattribute__" = some .slot:=by kernel_rfl
theorem exg_split : splitId "BaseException.__getattribute__" = some ("BaseException","__getattribute__"):=by kernel_rfl
theorem exg_sig : (match Manifest.signature? "BaseException.__getattribute__" with | some sig=>Bind.checkArgs "BaseException.__getattribute__" sig ⟨[.ref e,.str "__class__" t],[]⟩ | _=>pure ()) = (pure () : Sem Unit):=by rfl
theorem exc_class {prog : Program} {w : World} {A : Around} {E : Value->Shared->Prop} {s : Shared} {K : PySem.W.Frag} {e C : Addr} {ox : Obj} {od : Option Obj} {Q : Option Value->Shared->Prop}
  (KX : K.In s.heap) (I : PySem.W.InstAt s.heap e ox C od)
  (h1 : PySem.W.findIn K (.ref C) "__getattribute__" = some (some (.builtin "BaseException.__getattribute__")))
  (h0 : PySem.W.findIn K (.ref C) "__getattr__" = some none)
  (h2 : PySem.W.findObj K C od "__class__" = some (.bind (.builtin "getset_descriptor.__get__") (.builtin "object.__class__")))
  (h3 : PySem.W.mroIn K C (.type "object") = some true) (h4 : PySem.W.mroIn K C (.type "BaseException") = some true)
  (q : Q (some (.ref C)) { s with toks:=s.toks + 1 }) : wpAny (model prog w) A (getAttr? (.ref e) "__class__") Q E s:=by
 unfold getAttr?
 refine wpAny_bind (wpAny_mkText ?_)
 unfold getAttrBy?
 refine wpAny_bind (wpAny_attempt ?_)
 unfold getAttrBy
 refine wpAny_holding (wpAny_bind (I.type _ _ _ _ (fun _ _ h=>h) ?_))
 refine wpAny_bind (PySem.W.looks_findIn KX h1 _ _ _ _ (fun _ _ h=>h) ?_)
 show wpAny _ _ (getAttrByItsOwn _ _ _ _ _ _) _ _ _
 unfold getAttrByItsOwn
 refine wpAny_bind ?_
 unfold hookBefore
 rw [if_pos (by rfl)]
 refine PySem.W.looks_findIn KX h0 _ _ _ _ (fun _ _ h=>h) ?_
 refine wpAny_bind (wpAny_attempt (wpAny_holding ?_))
 show wpAny _ _ (boundAndCalled _ _ _) _ _ _
 unfold boundAndCalled
 rw [exg_bind]
 refine wpAny_bind (wpAny_pure ?_)
 show wpAny _ _ (call (.builtin "BaseException.__getattribute__") [.ref e,.str "__class__" s.toks]) _ _ _
 refine wpAny_call (codeAny_call_builtin exg_plain exg_entry ?_)
 have chk : ∀ (A' : Around) (Q' : Unit->Shared->Prop) (E' : Value->Shared->Prop),Q' () { s with toks:=s.toks + 1 }->wpAny (model prog w) A' (checkBuiltinCall "BaseException.__getattribute__" ⟨[.ref e,.str "__class__" s.toks],[]⟩) Q' E' { s with toks:=s.toks + 1 }:=by
  intro A' Q' E' k
  unfold checkBuiltinCall
  rw [exg_kind,exg_split]
  show wpAny _ _ (isInstance (.ref e) (.type "BaseException") >>= _) _ _ _
  refine wpAny_bind ?_
  unfold isInstance
  refine wpAny_bind (I.type _ _ _ _ (fun _ _ h=>h) (PySem.W.looks_mroIn KX h4 _ _ _ _ (fun _ _ h=>h) ?_))
  show wpAny _ _ (match Manifest.signature? "BaseException.__getattribute__" with | some sig=>Bind.checkArgs "BaseException.__getattribute__" sig ⟨[.ref e,.str "__class__" s.toks],[]⟩ | _=>pure ()) _ _ _
  rw [exg_sig]
  exact wpAny_pure k
 refine chk _ _ _ ?_
 unfold Builtin.«object.__getattribute__»
 refine wpAny_bind (wpAny_pure ?_)
 refine wpAny_bind (wpAny_pure ?_)
 refine wpAny_bind (I.type _ _ _ _ (fun _ _ h=>h) ?_)
 refine wpAny_bind (PySem.W.looks_find KX I h2 _ _ _ _ (fun _ _ h=>h) ?_)
 show wpAny _ _ (Builtin.ObjectAttr.bindTo _ _ _ _) _ _ _
 show wpAny _ _ (holding [Value.builtin "object.__class__"] (call (Value.builtin "getset_descriptor.__get__") [Value.builtin "object.__class__",.ref e,.ref C]) >>= fun x=>ret x) _ _ _
 refine wpAny_bind (wpAny_holding (wpAny_call (PySem.W.class_get KX I h3 ?_)))
 refine wpAny_pure ?_
 show wpAny _ _ (handedOut (.ref C)) _ _ _
 exact wpAny_pure (wpAny_pure q)
structure ExcC (K : PySem.W.Frag) (C : Addr) : Prop where
 ga : PySem.W.findIn K (.ref C) "__getattribute__" = some (some (.builtin "BaseException.__getattribute__"))
 gx : PySem.W.findIn K (.ref C) "__getattr__" = some none
 fo : ∀ od,PySem.W.findObj K C od "__class__" = some (.bind (.builtin "getset_descriptor.__get__") (.builtin "object.__class__"))
 ob : PySem.W.mroIn K C (.type "object") = some true
 be : PySem.W.mroIn K C (.type "BaseException") = some true
 self : PySem.W.kitCls K (.ref C) (.ref C) = some true
def ExO (e C : Addr) (od : Option Addr) (h : Heap) : Prop:=∃ ox,h.get? e = some ox /\ ox.cls = .ref C /\ PySem.W.notCls ox = true /\ ox.dict = od
theorem ExO.type {M : Model} {e C : Addr} {od : Option Addr} {h : Heap} (x : ExO e C od h) : PySem.W.Looks M h (typeOf (.ref e)) (.ref C):=by
 obtain ⟨ox,a,b,_⟩:=x
 exact b ▸ (PySem.W.Looks.ld a).andThen .now
def ExI (e C : Addr) (h : Heap) : Prop:=∃ ox od,PySem.W.InstAt h e ox C od
theorem ExO.i {e C : Addr} {od : Option Addr} {h : Heap} (x : ExO e C od h) (hd : ∀ dx,od = some dx->∃ o,h.get? dx = some o) : ExI e C h:=by
 obtain ⟨ox,h1,h2,h3,h4⟩:=x
 cases od with
 | none=>exact ⟨ox,none,h1,h2,h3,by rw [h4]; trivial⟩
 | some dx=>
  obtain ⟨o,ho⟩:=hd dx rfl
  exact ⟨ox,some o,h1,h2,h3,by rw [h4]; exact ho⟩
theorem clsIn_get {K : PySem.W.Frag} {C : Addr} {h : Heap} (KX : K.In h) (hs : (PySem.W.clsIn K C).isSome = true) : ∃ o cd,h.get? C = some o /\ o.data = .cls cd:=by
 unfold PySem.W.clsIn at hs
 split at hs
 ·rename_i hh
  exact ⟨_,_,KX _ _ hh,rfl⟩
 ·simp at hs
theorem kitx_exc {K : PySem.W.Frag} {e C : Addr} (c : ExcC K C) : PySem.W.KitX K (.ref e) (.ref C) (ExI e C) where
 ty:=fun M h KX ⟨ox,od,I⟩=>I.type
 it:=fun M h KX _=>(PySem.W.kit_cls KX c.self).2.1
 ne:=fun h tp dd its n sl KX ht=>by
  have hs : (PySem.W.clsIn K C).isSome = true:=by
   have:=c.self
   simp [PySem.W.kitCls] at this
   exact this.1.1
  obtain ⟨o,cd,h1,h2⟩:=clsIn_get KX hs
  rw [beq_eq_false_iff_ne]
  intro z
  cases z
  rw [ht] at h1
  cases h1
  cases h2
 ca:=fun KX ⟨ox,od,I⟩ q=>exc_class KX I c.ga c.gx (c.fo od) c.ob c.be q
def Out1 (X : Cx) (b : Addr) : Prop:=X.ex = [] /\ X.s₀.heap.get? b = none /\ b ≠ X.env.locals /\ (∀ x c,X.env.cells.lookup x = some c->c ≠ b) /\ ∀ p ∈ X.pn,p.1 ≠ b
theorem get_big {h : Heap} {b : Addr} (hb : h.objs.size <= b) : h.get? b = none:=by
 cases e : h.get? b with
 | none=>rfl
 | some o=>exact absurd (Heap.lt_size e) (Nat.not_lt.mpr hb)
section
variable {X : Cx} {pins : List (Addr × Obj)} {σ : St} {H : Hp} {s : Shared}
theorem Out1.of (I : Inv X pins σ H s) (hex : X.ex = []) {b : Addr} (hb : s.heap.get? b = none) : Out1 X b:=by
 refine ⟨hex,?_,fun z=>?_,fun x c e z=>?_,fun p hp z=>?_⟩
 ·cases e : X.s₀.heap.get? b with
  | none=>rfl
  | some o=>
   obtain ⟨o',e'⟩:=I.base.there b o e (by rw [hex]; simp)
   rw [hb] at e'
   cases e'
 ·obtain ⟨m,⟨o,_,_,ho,_⟩,_⟩:=I.loc
  rw [<- z,hb] at ho
  cases ho
 ·obtain ⟨v,o,ho,_⟩:=I.cell x c e
  rw [z,hb] at ho
  cases ho
 ·have:=(I.pin p (List.mem_append_left _ hp)).1
  rw [z,hb] at this
  cases this
def Cx.turn (X : Cx) (ch : List Addr) : Cx:={ X with ex:=ch }
theorem Inv.turn {ch : List Addr} (I : Inv X pins σ H s) (hex : X.ex = []) (hc : ∀ b ∈ ch,Out1 X b) : Inv (X.turn ch) pins σ H s:=by
 have ok:=I.ok
 have nb : ∀ b ∈ ch,X.base.get? b = none:=fun b hb=>by
  cases e : X.base.get? b with
  | none=>rfl
  | some o=>have:=(ok.bs b o e).1; rw [(hc b hb).2.1] at this; cases this
 refine ⟨⟨ok.mod,ok.kind,ok.glob,ok.blt,ok.above,ok.inj,ok.has,ok.cab,ok.hd,ok.frames,ok.stk,fun b hb=>⟨(hc b hb).2.2.1,(hc b hb).2.2.2.1⟩,ok.bs,ok.bsz,fun b o e hb=>?_,fun b hb hf=>?_,ok.funs,ok.frf⟩,I.os,I.bare,?_,I.loc,I.cell,I.free,I.freeC,I.pin,I.hok,I.len⟩
 ·have:=nb b hb
  rw [show X.base.get? b = some o from e] at this
  cases this
 ·obtain ⟨_,o,e,_⟩:=ok.funs.mem hf
  rw [(hc b hb).2.1] at e
  cases e
 ·exact ⟨fun b o e n m _=>I.base.keep b o e n m (by rw [hex]; simp),fun b o e n m _=>I.base.slot b o e n m (by rw [hex]; simp),fun b o e n _=>I.base.free b o e n (by rw [hex]; simp),fun b o e _=>I.base.there b o e (by rw [hex]; simp),I.base.tups,I.base.frzs,I.base.tbls⟩
theorem Inv.unturn {ch : List Addr} (I : Inv (X.turn ch) pins σ H s) (ok : X.Ok) (hex : X.ex = []) (hc : ∀ b ∈ ch,Out1 X b) : Inv X pins σ H s:=by
 have nc : ∀ b o,X.s₀.heap.get? b = some o->b ∉ ch:=fun b o e hb=>by rw [(hc b hb).2.1] at e; cases e
 exact ⟨ok,I.os,I.bare,⟨fun b o e n m _=>I.base.keep b o e n m (nc b o e),fun b o e n m _=>I.base.slot b o e n m (nc b o e),fun b o e n _=>I.base.free b o e n (nc b o e),fun b o e _=>I.base.there b o e (nc b o e),I.base.tups,I.base.frzs,I.base.tbls⟩,I.loc,I.cell,I.free,I.freeC,I.pin,I.hok,I.len⟩
end
structure Fly (X : Cx) (H : Hp) (h : Heap) (e C : Addr) (od : Option Addr) : Prop where
 out : Out1 X e
 free : H e = none
 obj : ∃ oe vs,h.get? e = some oe /\ oe.cls = .ref C /\ oe.dict = od /\ oe.data = .fields vs /\ (vs[1]? = some .none \/
  ∃ T oT ts,vs[1]? = some (.ref T) /\ T ≠ e /\ Out1 X T /\ H T = none /\ h.get? T = some oT /\ oT.data = .fields ts /\ ts[3]? = some .none)
structure Chg (S ch : List Addr) (h h' : Heap) : Prop where
 keep : ∀ b o,h.get? b = some o->b ∉ ch->b ∉ S->h'.get? b = some o
 slot : ∀ b o,h.get? b = some o->b ∉ ch->∃ sl,h'.get? b = some { o with slots:=sl }
theorem Chg.trans {S ch : List Addr} {h h1 h2 : Heap} (a : Chg S ch h h1) (b : Chg S ch h1 h2) : Chg S ch h h2:=
 ⟨fun c o e n m=>b.keep c o (a.keep c o e n m) n m,fun c o e n=>by
  obtain ⟨sl,e1⟩:=a.slot c o e n
  obtain ⟨sl2,e2⟩:=b.slot c _ e1 n
  exact ⟨sl2,e2⟩⟩
theorem Chg.upd {S ch : List Addr} {h : Heap} {a : Addr} (f : Obj->Obj) (ha : a ∈ ch) : Chg S ch h (h.update a f):=
 ⟨fun b o e n _=>Heap.get?_update_of_ne f (fun z=>n (z ▸ ha)) e,fun b o e n=>⟨o.slots,Heap.get?_update_of_ne f (fun z=>n (z ▸ ha)) e⟩⟩
theorem Chg.push {S ch : List Addr} {h : Heap} (o : Obj) : Chg S ch h (h.push o):=⟨fun b u e _ _=>Heap.get?_push_of_some o e,fun b u e _=>⟨u.slots,Heap.get?_push_of_some o e⟩⟩
theorem Chg.slots {S ch : List Addr} {h h' : Heap} (x : Heap.SlotsOnly S h h') : Chg S ch h h':=⟨fun b o e _ m=>by rw [x.2.1 b m]; exact e,fun b o e _=>x.2.2 b o e⟩
section
variable {X : Cx} {pins : List (Addr × Obj)} {σ : St} {H : Hp} {s : Shared}
theorem Inv.chg {ch : List Addr} {h' : Heap} (I : Inv X pins σ H s) (hex : X.ex = []) (c : Chg (frs X.stack) ch s.heap h') (hc : ∀ b ∈ ch,Out1 X b /\ H b = none) : Inv X [] σ H { s with heap:=h' }:=by
 have I0 : Inv X [] σ H s:=I.pins_of fun p hp=>absurd hp (by simp)
 have I1:=I0.turn hex fun b hb=>(hc b hb).1
 refine Inv.unturn (ch:=ch) (I1.call (g':=s.gens) (t':=s.toks) (d':=s.drawn) (ch:=ch) (H':=H) (h':=h') ⟨fun b o e n m x=>c.keep b o e x m,fun b o e n m x=>c.slot b o e x,fun b o e n _=>n,fun b o e x=>let ⟨sl,z⟩:=c.slot b o e x; ⟨_,z⟩,fun _ _ e=>e,fun _ _ _ e=>e,fun b ps e=>⟨#[],by rw [e]; simp⟩⟩ (fun b u e=>?_) I.bare (fun b hb=>?_)) I.ok hex fun b hb=>(hc b hb).1
 ·refine (I.hok b u e).stay (fun d v hd q=>c.keep d v q (fun z=>?_) fun z=>?_) (fun _ q=>q) fun _ _ q=>q
  ·have:=(hc d z).2
   rcases hd with rfl | hd
   ·rw [e] at this; cases this
   ·rw [hd] at this; cases this
  ·have:=I.stkFree d z
   rcases hd with rfl | hd
   ·rw [e] at this; cases this
   ·rw [hd] at this; cases this
 ·obtain ⟨⟨_,h1,h2,h3,h4⟩,_⟩:=hc b hb
  exact ⟨.inl hb,h2,h3,fun p hp=>h4 p (by have hp : p ∈ X.pn++[]:=hp; simpa using hp)⟩
theorem mf_cls {f : Array Value->Array Value} {o : Obj} : (Obj.mapFields f o).cls = o.cls /\ (Obj.mapFields f o).dict = o.dict:=by
 rcases o with ⟨c,d,dt,sl⟩
 cases dt <;> exact ⟨rfl,rfl⟩
theorem mf_data {f : Array Value->Array Value} {o : Obj} {vs : Array Value} (h : o.data = .fields vs) : (Obj.mapFields f o).data = .fields (f vs):=by
 rcases o with ⟨c,d,dt,sl⟩
 cases h
 rfl
theorem fr_not {o : Obj} {vs : Array Value} (h : o.data = .fields vs) : o.isFreed = false:=by
 rcases o with ⟨c,d,dt,sl⟩
 cases h
 rfl
theorem leave_tail {M : Model} {E : Value->Shared->Prop} {Q : Unit->Shared->Prop} {e C : Addr} {od : Option Addr} {oe : Obj} {vs : Array Value} {head : Value} {hadNext : Bool} (I : Inv X pins σ H s) (hst : X.stack = X.env::X.outer) (hfr : X.env.frame = some X.env.locals)
  (out : Out1 X e) (free : H e = none) (he : s.heap.get? e = some oe) (hc : oe.cls = .ref C) (hd : oe.dict = od) (hf : oe.data = .fields vs) (hv : 1 < vs.size)
  (k : ∀ h',Inv X [] σ H { s with heap:=h' }->Fly X H h' e C od->Q () { s with heap:=h' }) :
  wpAny M X.A (do
   let a <- frameOf X.env
   let pl <- entryPlaceOf X.env.locals hadNext
   let b <- EntryCells.newEntry head a Value.none (rawInt ↑X.env.locals) Value.none pl
   setField (Value.ref e) 1 b) (fun _ s'=>wpAny M X.A (setFlight (.ref e) none) Q E s') E s:=by
 refine wpAny_bind (wpAny_frameOf_fun (by rw [I.ok.frames,hst]) (by rw [<- hst]; exact I.stack) hfr fun h1 so=>?_)
 refine wpAny_bind (wpAny_entryPlaceOf fun pl ip=>?_)
 have c1 : Chg (frs X.stack) [e,s.heap.objs.size] s.heap h1:=by rw [hst]; exact Chg.slots so
 have ne : s.heap.objs.size ≠ e:=fun z=>absurd (Heap.lt_size he) (by rw [<- z]; exact Nat.lt_irrefl _)
 obtain ⟨sl,he1⟩:=so.2.2 e oe he
 obtain ⟨tb,htb,hts⟩ : ∃ tb : List Value,([head,Value.ref X.env.locals,Value.none,rawInt ↑X.env.locals,Value.none]++if pl.isEmpty = true then List.replicate 6 Value.none else pl) = tb /\ tb.length = 11:=by
  refine ⟨_,rfl,?_⟩
  rcases ip with rfl | ⟨_,_,_,_,_,_,_,rfl⟩ <;> rfl
 unfold EntryCells.newEntry newFields newObj
 refine wpAny_bind ?_
 show wpAny _ _ (if (([head,Value.ref X.env.locals,Value.none,rawInt ↑X.env.locals,Value.none]++if pl.isEmpty = true then List.replicate 6 Value.none else pl).toArray).size > sizeLine + 2 then _ else newObjAsIs _ _ _) _ _ _
 rw [htb,if_neg (by rw [List.size_toArray,hts]; decide)]
 unfold newObjAsIs
 refine wpAny_bind (wpAny_alloc (wpAny_pure ?_))
 rw [so.1]
 refine wpAny_setField (Heap.get?_push_of_some _ he1) hf hv ?_
 have g1 : ((h1.push { cls:=.type "traceback",data:=.fields tb.toArray }).update e (Obj.mapFields fun x=>x.setIfInBounds 1 (.ref s.heap.objs.size))).get? e = some (Obj.mapFields (fun x=>x.setIfInBounds 1 (.ref s.heap.objs.size)) { oe with slots:=sl }):=
  Heap.get?_update_self _ (Heap.get?_push_of_some _ he1) (fr_not (mf_data (o:={ oe with slots:=sl }) hf))
 have g2 : ((h1.push { cls:=.type "traceback",data:=.fields tb.toArray }).update e (Obj.mapFields fun x=>x.setIfInBounds 1 (.ref s.heap.objs.size))).get? s.heap.objs.size = some { cls:=.type "traceback",data:=.fields tb.toArray }:=
  Heap.get?_update_of_ne _ (Ne.symm ne) (by rw [<- so.1]; exact Heap.get?_push_size h1 rfl)
 have v1 : (vs.setIfInBounds 1 (.ref s.heap.objs.size))[1]? = some (.ref s.heap.objs.size):=by simp [hv]
 unfold setFlight
 refine wpAny_bind (wpAny_field g1 (mf_data (o:={ oe with slots:=sl }) hf) v1 ?_)
 show wpAny _ _ (setField (.ref s.heap.objs.size) 3 .none) _ _ _
 refine wpAny_setField g2 rfl (by rw [List.size_toArray,hts]; decide) ?_
 refine k _ (I.chg out.1 (ch:=[e,s.heap.objs.size]) (((c1.trans (Chg.push _)).trans (Chg.upd _ (by simp))).trans (Chg.upd _ (by simp))) fun b hb=>?_) ⟨out,free,_,_,Heap.get?_update_of_ne _ ne g1,?_,?_,mf_data (o:={ oe with slots:=sl }) hf,.inr ⟨s.heap.objs.size,_,_,v1,ne,Out1.of I out.1 (get_big (Nat.le_refl _)),I.hok.fresh (Nat.le_refl _),Heap.get?_update_self _ g2 rfl,rfl,?_⟩⟩
 ·rcases List.mem_cons.mp hb with rfl | hb
  ·exact ⟨out,free⟩
  ·obtain rfl : b = s.heap.objs.size:=by simpa using hb
   exact ⟨Out1.of I out.1 (get_big (Nat.le_refl _)),I.hok.fresh (Nat.le_refl _)⟩
 ·rw [mf_cls.1]; exact hc
 ·rw [mf_cls.2]; exact hd
 ·simp [hts]
theorem leave_fly2 {M : Model} {E : Value->Shared->Prop} {Q : Unit->Shared->Prop} {e C : Addr} {od : Option Addr} (I : Inv X pins σ H s) (hst : X.stack = X.env::X.outer) (hfr : X.env.frame = some X.env.locals) (F : Fly X H s.heap e C od)
  (k : ∀ h',Inv X [] σ H { s with heap:=h' }->Fly X H h' e C od->Q () { s with heap:=h' }) : wpAny M X.A (noteFrame (.ref e) X.env) (fun _ s'=>wpAny M X.A (setFlight (.ref e) none) Q E s') E s:=by
 obtain ⟨out,free,oe,vs,he,hc,hd,hf,hh⟩:=F
 unfold noteFrame
 rw [hfr]
 rcases hh with hh | ⟨T,oT,ts,hT,nT,outT,freeT,heT,hfT,h3⟩
 ·refine wpAny_bind (wpAny_field he hf hh ?_)
  exact leave_tail I hst hfr out free he hc hd hf (by have:=(Array.getElem?_eq_some_iff.mp hh).1; exact this) k
 ·refine wpAny_bind (wpAny_field he hf hT ?_)
  show wpAny _ _ (field (.ref T) 3 >>= _) _ _ _
  refine wpAny_bind (wpAny_field heT hfT h3 ?_)
  show wpAny _ _ (setField (.ref T) 3 .none >>= _) _ _ _
  refine wpAny_bind (wpAny_setField heT hfT (by have:=(Array.getElem?_eq_some_iff.mp h3).1; exact this) ?_)
  have I1:=I.chg out.1 (ch:=[T]) (Chg.upd (S:=frs X.stack) (h:=s.heap) (Obj.mapFields fun x=>x.setIfInBounds 3 .none) (List.mem_singleton.mpr rfl)) fun b hb=>by
   obtain rfl : b = T:=by simpa using hb
   exact ⟨outT,freeT⟩
  exact leave_tail I1 hst hfr out free (Heap.get?_update_of_ne _ nT he) hc hd hf (by have:=(Array.getElem?_eq_some_iff.mp hT).1; exact this) k
theorem leave_fly {M : Model} {E : Value->Shared->Prop} {Q : Unit->Shared->Prop} {e C : Addr} {od : Option Addr} (I : Inv X pins σ H s) (hst : X.stack = X.env::X.outer) (hfr : X.env.frame = some X.env.locals) (F : Fly X H s.heap e C od)
  (k : ∀ h',Inv X [] σ H { s with heap:=h' }->Fly X H h' e C od->Q () { s with heap:=h' }) : wpAny M X.A (leaving X.env (.ref e)) Q E s:=wpAny_bind (leave_fly2 I hst hfr F k)
theorem flight_fly {M : Model} {A : Around} {E : Value->Shared->Prop} {Q : Unit->Shared->Prop} {e C : Addr} {od : Option Addr} (I : Inv X pins σ H s) (F : Fly X H s.heap e C od)
  (k : ∀ h',Inv X [] σ H { s with heap:=h' }->Fly X H h' e C od->Q () { s with heap:=h' }) : wpAny M A (setFlight (.ref e) none) Q E s:=by
 obtain ⟨out,free,oe,vs,he,hc,hd,hf,hh⟩:=F
 have I0 : Inv X [] σ H s:=I.pins_of fun p hp=>absurd hp (by simp)
 unfold setFlight
 rcases hh with hh | ⟨T,oT,ts,hT,nT,outT,freeT,heT,hfT,h3⟩
 ·refine wpAny_bind (wpAny_field he hf hh ?_)
  exact wpAny_pure (k s.heap I0 ⟨out,free,oe,vs,he,hc,hd,hf,.inl hh⟩)
 ·refine wpAny_bind (wpAny_field he hf hT ?_)
  show wpAny _ _ (setField (.ref T) 3 .none) _ _ _
  have hs3 : 3 < ts.size:=(Array.getElem?_eq_some_iff.mp h3).1
  refine wpAny_setField heT hfT hs3 (k _ (I.chg out.1 (ch:=[T]) (Chg.upd _ (List.mem_singleton.mpr rfl)) fun b hb=>?_) ⟨out,free,oe,vs,Heap.get?_update_of_ne _ nT he,hc,hd,hf,.inr ⟨T,_,_,hT,nT,outT,freeT,Heap.get?_update_self _ heT (fr_not (mf_data hfT)),mf_data hfT,?_⟩⟩)
  ·obtain rfl : b = T:=by simpa using hb
   exact ⟨outT,freeT⟩
  ·simp [hs3]
theorem Inv.trackX {e C : Addr} {od : Option Addr} (I : Inv X pins σ H s) (F : Fly X H s.heap e C od) : Inv X [] σ (upd H e (.ext (ExO e C od))) s:=by
 obtain ⟨out,free,oe,vs,he,hc,hd,hf,hh⟩:=F
 have I0 : Inv X [] σ H s:=I.pins_of fun p hp=>absurd hp (by simp)
 have ho1 : ∀ b ∈ [e],Out1 X b:=fun b hb=>by
  obtain rfl : b = e:=by simpa using hb
  exact out
 have ne : ∀ b u,H b = some u->b ≠ e:=fun b u q z=>by rw [z,free] at q; cases q
 refine Inv.unturn (ch:=[e]) ((I0.turn out.1 ho1).call' (ch:=[e]) rfl ⟨fun b o q n m x=>q,fun b o q n m x=>⟨o.slots,q⟩,fun b o q n x=>by rw [upd_ne (fun z=>x (by simp [z]))]; exact n,fun b o q x=>⟨o,q⟩,fun b xs q=>by rw [upd_ne (ne _ _ q)]; exact q,fun b o u q=>by rw [upd_ne (ne _ _ q)]; exact q,fun b ps q=>⟨#[],by rw [upd_ne (ne _ _ q),q]; simp⟩⟩ (fun b u q=>?_) I.bare (fun b hb=>?_)) I.ok out.1 ho1
 ·by_cases hb : b = e
  ·subst hb
   rw [upd_same] at q
   cases q
   refine ⟨⟨oe,he,hc,?_,hd⟩,⟨oe,he⟩,fun h1 h2 ⟨ox,i1,i2,i3,i4⟩ kk=>⟨ox,kk _ i1,i2,i3,i4⟩⟩
   rcases oe with ⟨_,_,dt,_⟩; cases hf; rfl
  ·rw [upd_ne hb] at q
   exact (I.hok b u q).stay (fun _ _ _ z=>z) (fun c z=>by rw [upd_ne (ne _ _ z)]; exact z) fun c xs z=>by rw [upd_ne (ne _ _ z)]; exact z
 ·obtain rfl : b = e:=by simpa using hb
  obtain ⟨_,h1,h2,h3,h4⟩:=out
  exact ⟨.inl hb,h2,h3,fun p hp=>h4 p (by have hp : p ∈ X.pn++[]:=hp; simpa using hp)⟩
theorem Fly.inst {e C : Addr} {od : Option Addr} {h : Heap} (F : Fly X H h e C od) : ExO e C od h:=by
 obtain ⟨out,free,oe,vs,he,hc,hd,hf,hh⟩:=F
 refine ⟨oe,he,hc,?_,hd⟩
 rcases oe with ⟨_,_,dt,_⟩; cases hf; rfl
end
inductive D where
 | non | bl (b : Bool) | int (i : Int) | str (x : Str) | tup (xs : List D) | lst (xs : List D) | dic (ks : List Key) (xs : List D) | obj (c : Str) (ks : List Str) (xs : List D)
mutual
def Rep (K : PySem.W.Frag) (H : Hp) : D->V->Prop
 | .non,v=>v = .non
 | .bl b,v=>v = .bl b
 | .int i,v=>v = .int i
 | .str x,v=>v = .str x
 | .tup ds,v=>∃ a vs,v = .ref a /\ SqT K H a vs /\ RepL K H ds vs
 | .lst ds,v=>∃ a vs,v = .ref a /\ SqL K H a vs /\ RepL K H ds vs
 | .dic ks ds,v=>∃ a vs,v = .ref a /\ Rd H a (.dK (ks.zip vs)) /\ ks.length = ds.length /\ ks.Nodup /\ RepL K H ds vs
 | .obj c ks ds,v=>∃ a C dx vs,v = .ref a /\ PySem.W.nsIn K mainGlobals c = some (some (.ref C)) /\ H a = some (.ins C dx (ks.zip vs)) /\ H dx = some (.own a) /\ ks.length = ds.length /\ RepL K H ds vs
def RepL (K : PySem.W.Frag) (H : Hp) : List D->List V->Prop
 | [],vs=>vs = []
 | d::ds,vs=>∃ v r,vs = v::r /\ Rep K H d v /\ RepL K H ds r
end
theorem Same.rd {H H' : Hp} (e : Same H H') {a : Addr} {u : HO} (h : Rd H a u) : Rd H' a u:=h.elim (fun z=>.inl (e _ _ z)) fun ⟨o,z⟩=>.inr ⟨o,e _ _ z⟩
theorem Same.sqT {K : PySem.W.Frag} {H H' : Hp} (e : Same H H') {a : Addr} {xs : List V} (h : SqT K H a xs) : SqT K H' a xs:=h.elim (fun z=>.inl (e.rd z)) .inr
theorem Same.sqL {K : PySem.W.Frag} {H H' : Hp} (e : Same H H') {a : Addr} {xs : List V} (h : SqL K H a xs) : SqL K H' a xs:=h.elim (fun z=>.inl (e.rd z)) .inr
mutual
theorem Rep.mono {K : PySem.W.Frag} {H H' : Hp} (e : Same H H') : ∀ {d : D} {v : V},Rep K H d v->Rep K H' d v
 | .non,_,h=>by simp only [Rep] at h ⊢; exact h
 | .bl b,_,h=>by simp only [Rep] at h ⊢; exact h
 | .int i,_,h=>by simp only [Rep] at h ⊢; exact h
 | .str x,_,h=>by simp only [Rep] at h ⊢; exact h
 | .tup ds,_,h=>by
  simp only [Rep] at h ⊢
  obtain ⟨a,vs,h1,h2,h3⟩:=h
  exact ⟨a,vs,h1,e.sqT h2,RepL.mono e h3⟩
 | .lst ds,_,h=>by
  simp only [Rep] at h ⊢
  obtain ⟨a,vs,h1,h2,h3⟩:=h
  exact ⟨a,vs,h1,e.sqL h2,RepL.mono e h3⟩
 | .dic ks ds,_,h=>by
  simp only [Rep] at h ⊢
  obtain ⟨a,vs,h1,h2,h3,h4,h5⟩:=h
  exact ⟨a,vs,h1,e.rd h2,h3,h4,RepL.mono e h5⟩
 | .obj c ks ds,_,h=>by
  simp only [Rep] at h ⊢
  obtain ⟨a,C,dx,vs,h1,h2,h3,h4,h5,h6⟩:=h
  exact ⟨a,C,dx,vs,h1,h2,e _ _ h3,e _ _ h4,h5,RepL.mono e h6⟩
theorem RepL.mono {K : PySem.W.Frag} {H H' : Hp} (e : Same H H') : ∀ {ds : List D} {vs : List V},RepL K H ds vs->RepL K H' ds vs
 | [],_,h=>by simp only [RepL] at h ⊢; exact h
 | d::ds,_,h=>by
  simp only [RepL] at h ⊢
  obtain ⟨v,r,h1,h2,h3⟩:=h
  exact ⟨v,r,h1,Rep.mono e h2,RepL.mono e h3⟩
end
theorem RepL.length {K : PySem.W.Frag} {H : Hp} : ∀ {ds : List D} {vs : List V},RepL K H ds vs->ds.length = vs.length
 | [],_,h=>by simp only [RepL] at h; subst h; rfl
 | d::ds,_,h=>by
  simp only [RepL] at h
  obtain ⟨v,r,h1,h2,h3⟩:=h
  subst h1
  simp [RepL.length h3]
theorem RepL.get {K : PySem.W.Frag} {H : Hp} : ∀ {ds : List D} {vs : List V} {i : Nat} {d : D},RepL K H ds vs->ds[i]? = some d->∃ v,vs[i]? = some v /\ Rep K H d v
 | [],_,_,_,_,e=>by simp at e
 | x::ds,_,0,d,h,e=>by
  simp only [RepL] at h
  obtain ⟨v,r,h1,h2,h3⟩:=h
  subst h1
  simp at e
  subst e
  exact ⟨v,rfl,h2⟩
 | x::ds,_,i + 1,d,h,e=>by
  simp only [RepL] at h
  obtain ⟨v,r,h1,h2,h3⟩:=h
  subst h1
  obtain ⟨u,h4,h5⟩:=RepL.get (i:=i) h3 (by simpa using e)
  exact ⟨u,by simpa using h4,h5⟩
theorem RepL.append {K : PySem.W.Frag} {H : Hp} : ∀ {ds es : List D} {vs us : List V},RepL K H ds vs->RepL K H es us->RepL K H (ds++es) (vs++us)
 | [],_,_,_,h,h'=>by simp only [RepL] at h; subst h; exact h'
 | d::ds,_,_,_,h,h'=>by
  simp only [RepL] at h
  obtain ⟨v,r,h1,h2,h3⟩:=h
  subst h1
  simp only [List.cons_append,RepL]
  exact ⟨v,_,rfl,h2,RepL.append h3 h'⟩
theorem RepL.drop {K : PySem.W.Frag} {H : Hp} : ∀ (n : Nat) {ds : List D} {vs : List V},RepL K H ds vs->RepL K H (ds.drop n) (vs.drop n)
 | 0,_,_,h=>h
 | _ + 1,[],_,h=>by simp only [RepL] at h; subst h; simp [RepL]
 | n + 1,d::ds,_,h=>by
  simp only [RepL] at h
  obtain ⟨v,r,h1,h2,h3⟩:=h
  subst h1
  exact RepL.drop n h3
theorem RepL.take {K : PySem.W.Frag} {H : Hp} : ∀ (n : Nat) {ds : List D} {vs : List V},RepL K H ds vs->RepL K H (ds.take n) (vs.take n)
 | 0,_,_,h=>by simp [RepL]
 | _ + 1,[],_,h=>by simp only [RepL] at h; subst h; simp [RepL]
 | n + 1,d::ds,_,h=>by
  simp only [RepL] at h
  obtain ⟨v,r,h1,h2,h3⟩:=h
  subst h1
  simp only [List.take_succ_cons,RepL]
  exact ⟨v,_,rfl,h2,RepL.take n h3⟩
theorem RepL.snoc {K : PySem.W.Frag} {H : Hp} {ds : List D} {vs : List V} {d : D} {v : V} (h : RepL K H ds vs) (r : Rep K H d v) : RepL K H (ds++[d]) (vs++[v]):=
 h.append (by simp only [RepL]; exact ⟨v,[],rfl,r,rfl⟩)
structure Grow (G H G' H' : Hp) : Prop where
 g : Same G G'
 h : Same H H'
 s : Same G' H'
 n : ∀ a o,H a = some o->G a = none->G' a = none
theorem Grow.refl {G H : Hp} (s : Same G H) : Grow G H G H:=⟨Same.refl _,Same.refl _,s,fun _ _ _ n=>n⟩
theorem Grow.trans {G H G1 H1 G2 H2 : Hp} (a : Grow G H G1 H1) (b : Grow G1 H1 G2 H2) : Grow G H G2 H2:=
 ⟨a.g.trans b.g,a.h.trans b.h,b.s,fun x o e n=>b.n x o (a.h x o e) (a.n x o e n)⟩
theorem Same.upd {G H : Hp} (s : Same G H) {p : Addr} (o : HO) : Same (upd G p o) (upd H p o):=fun b u e=>by
 by_cases hb : b = p
 ·subst hb; rw [upd_same] at e ⊢; exact e
 ·rw [upd_ne hb] at e ⊢; exact s b u e
theorem same_new {H : Hp} {p : Addr} (o : HO) (n : H p = none) : Same H (L2.upd H p o):=fun b u e=>by
 rw [upd_ne (ne_of_none e n)]; exact e
theorem Grow.laid {G H : Hp} (s : Same G H) {p : Addr} (o : HO) (n : H p = none) : Grow G H (L2.upd G p o) (L2.upd H p o):=
 ⟨same_new o (s.free n),same_new o n,s.upd o,fun a u e z=>by rw [upd_ne (ne_of_none e n)]; exact z⟩
inductive Mo where
 | lst (xs : List D) | dic (ks : List Key) (xs : List D)
@[simp] def Mo.d : Mo->D | .lst xs=>.lst xs | .dic ks xs=>.dic ks xs
@[simp] def Mo.vals : Mo->List D | .lst xs=>xs | .dic _ xs=>xs
def Mo.ho : Mo->List V->HO | .lst _,vs=>.lst vs | .dic ks _,vs=>.dK (ks.zip vs)
def Mo.ok : Mo->Prop | .lst _=>True | .dic ks xs=>ks.length = xs.length /\ ks.Nodup
structure Ex where
 n : Str
 ks : List Str
 ds : List D
def Pay (K : PySem.W.Frag) (G : Hp) (c : Ex) : Option Addr->Prop
 | none=>c.ks = [] /\ c.ds = []
 | some dx=>∃ vs,G dx = some (.xd (c.ks.zip vs)) /\ c.ks.length = c.ds.length /\ RepL K G c.ds vs
theorem Pay.mono {K : PySem.W.Frag} {H H' : Hp} (s : Same H H') {c : Ex} {od : Option Addr} (h : Pay K H c od) : Pay K H' c od:=by
 cases od with
 | none=>exact h
 | some dx=>obtain ⟨vs,h1,h2,h3⟩:=h; exact ⟨vs,s _ _ h1,h2,h3.mono s⟩
inductive Sl where
 | sh (d : D) | pv (m : Mo) (o : Option Addr) | ob (c : Ex) | tk (P : Program) (w : World) (ts : List (List Key))
@[simp] def Sl.d : Sl->D | .sh d=>d | .pv m _=>m.d | .ob _=>.non | .tk _ _ _=>.non
@[simp] def Sl.ok : Sl->Bool | .ob _=>false | .tk _ _ _=>false | _=>true
def tkX (ts : List (List Key)) (as : List Addr) : List (List Key × Addr × Value):=(ts.zip as).map fun p=>(p.1,p.2,.bool true)
def TkO (P : Program) (w : World) (a : Addr) (ts : List (List Key)) (as : List Addr) (h : Heap) : Prop:=∃ o es ep,h.get? a = some o /\ o.ExactDict /\ o.data = .dict es ep /\ es.toList = (tkX ts as).map (entryOfKey (tupleKind (mixKind P w)))
structure TkS (G : Hp) (a : Addr) (ts : List (List Key)) (as : List Addr) : Prop where
 sys : (a == sysModules) = false
 nd : ts.Nodup
 len : as.length = ts.length
 keys : ∀ p ∈ ts.zip as,G p.2 = some (.tup (p.1.map kV))
def IsTk (B G H : Hp) (P : Program) (w : World) (ts : List (List Key)) (v : V) : Prop:=∃ a as,v = .ref a /\ B a = none /\ G a = none /\ H a = some (.ext (TkO P w a ts as)) /\ TkS G a ts as
theorem IsTk.mono {B G H G' H' : Hp} {P : Program} {w : World} {ts : List (List Key)} {v : V} (h : IsTk B G H P w ts v) (g : Same G G') (k : ∀ a φ,v = .ref a->H a = some (.ext φ)->B a = none->G a = none->H' a = some (.ext φ) /\ G' a = none) : IsTk B G' H' P w ts v:=by
 obtain ⟨a,as,h1,h2,h3,h4,h5⟩:=h
 obtain ⟨k1,k2⟩:=k a _ h1 h4 h2 h3
 exact ⟨a,as,h1,h2,k2,k1,h5.sys,h5.nd,h5.len,fun p hp=>g _ _ (h5.keys p hp)⟩
def IsEx (K : PySem.W.Frag) (H : Hp) (c : Ex) (v : V) : Prop:=∃ a C od,v = .ref a /\ PySem.W.nsIn K mainGlobals c.n = some (some (.ref C)) /\ ExcC K C /\ H a = some (.ext (ExO a C od)) /\ Pay K H c od
theorem IsEx.mono {K : PySem.W.Frag} {H H' : Hp} (s : Same H H') {c : Ex} {v : V} (h : IsEx K H c v) : IsEx K H' c v:=by
 obtain ⟨a,C,od,h1,h2,h3,h4,h5⟩:=h
 exact ⟨a,C,od,h1,h2,h3,s _ _ h4,h5.mono s⟩
abbrev En:=List (Option Sl)
def RepX (K : PySem.W.Frag) (B G H : Hp) : Sl->V->Prop
 | .sh d,v=>Rep K G d v
 | .pv m o,v=>∃ a vs,v = .ref a /\ B a = none /\ G a = none /\ H a = some (m.ho vs) /\ m.ok /\ RepL K G m.vals vs /\ ∀ b,o = some b->b = a
 | .ob c,v=>IsEx K G c v
 | .tk P w ts,v=>IsTk B G H P w ts v
theorem RepX.grow {K : PySem.W.Frag} {B G H G' H' : Hp} (g : Grow G H G' H') : ∀ {x : Sl} {v : V},RepX K B G H x v->RepX K B G' H' x v
 | .sh d,_,h=>Rep.mono g.g h
 | .pv m o,_,⟨a,vs,h1,h0,h2,h3,h5,h4,h6⟩=>⟨a,vs,h1,h0,g.n a _ h3 h2,g.h _ _ h3,h5,h4.mono g.g,h6⟩
 | .ob c,_,h=>IsEx.mono g.g h
 | .tk P w ts,_,h=>IsTk.mono h g.g fun a φ _ e _ n=>⟨g.h _ _ e,g.n a _ e n⟩
structure RepS (K : PySem.W.Frag) (B G H : Hp) (δ : En) (σ : St) : Prop where
 len : δ.length = σ.length
 at_ : ∀ (i : Nat) (x : Sl),δ[i]? = some (some x)->∃ v,σ[i]? = some (some v) /\ RepX K B G H x v
 ap : ∀ (i j : Nat) (x y : Mo) (o o' : Option Addr),i ≠ j->δ[i]? = some (some (.pv x o))->δ[j]? = some (some (.pv y o'))->σ[i]? ≠ σ[j]?
theorem RepS.grow {K : PySem.W.Frag} {B G H G' H' : Hp} {δ : En} {σ : St} (r : RepS K B G H δ σ) (g : Grow G H G' H') : RepS K B G' H' δ σ:=
 ⟨r.len,fun i x e=>let ⟨v,h1,h2⟩:=r.at_ i x e; ⟨v,h1,h2.grow g⟩,r.ap⟩
theorem get_set {α : Type} {l : List α} {i j : Nat} {x y : α} (e : (l.set i x)[j]? = some y) : (i = j /\ x = y) \/ (i ≠ j /\ l[j]? = some y):=by
 by_cases h : i = j
 ·subst h
  by_cases hl : i < l.length
  ·rw [List.getElem?_set_self hl] at e
   exact .inl ⟨rfl,Option.some.inj e⟩
  ·rw [List.getElem?_eq_none (by simpa using hl)] at e; cases e
 ·rw [List.getElem?_set_ne h] at e
  exact .inr ⟨h,e⟩
theorem RepS.put {K : PySem.W.Frag} {B G H : Hp} {δ : En} {σ : St} (r : RepS K B G H δ σ) (i : Nat) {x : Sl} {v : V} (h : RepX K B G H x v)
  (ha : ∀ m o,x = .pv m o->∀ (j : Nat) (y : Mo) (o' : Option Addr),j ≠ i->δ[j]? = some (some (.pv y o'))->σ[j]? ≠ some (some v)) : RepS K B G H (δ.set i (some x)) (σ.set i (some v)):=by
 refine ⟨by simp [r.len],fun j y e=>?_,fun j l y z o o' hjl e1 e2=>?_⟩
 ·have hl0:=(List.getElem?_eq_some_iff.mp e).1
  rw [List.length_set,r.len] at hl0
  rcases get_set e with ⟨rfl,e'⟩ | ⟨hj,e'⟩
  ·cases e'
   exact ⟨v,List.getElem?_set_self hl0,h⟩
  ·rw [List.getElem?_set_ne hj]
   exact r.at_ j y e'
 ·have inb : ∀ (m : Nat) (w : Mo) (o : Option Addr),(δ.set i (some x))[m]? = some (some (.pv w o))->m < σ.length:=fun m w o e=>by
   have:=(List.getElem?_eq_some_iff.mp e).1
   rw [List.length_set,r.len] at this
   exact this
  rcases get_set e1 with ⟨rfl,f1⟩ | ⟨h1,f1⟩
  ·rcases get_set e2 with ⟨rfl,f2⟩ | ⟨h2,f2⟩
   ·exact absurd rfl hjl
   ·cases f1
    rw [List.getElem?_set_self (inb _ _ _ e1),List.getElem?_set_ne h2]
    exact fun z=>ha _ _ rfl l _ _ (Ne.symm h2) f2 z.symm
  ·rcases get_set e2 with ⟨rfl,f2⟩ | ⟨h2,f2⟩
   ·cases f2
    rw [List.getElem?_set_self (inb _ _ _ e2),List.getElem?_set_ne h1]
    exact ha _ _ rfl j _ _ (Ne.symm h1) f1
   ·rw [List.getElem?_set_ne h1,List.getElem?_set_ne h2]
    exact r.ap j l y z o o' hjl f1 f2
theorem RepS.set {K : PySem.W.Frag} {B G H : Hp} {δ : En} {σ : St} (r : RepS K B G H δ σ) (i : Nat) {d : D} {v : V} (h : Rep K G d v) : RepS K B G H (δ.set i (some (.sh d))) (σ.set i (some v)):=
 r.put i (x:=.sh d) h fun m o e=>nomatch e
def RepB (K : PySem.W.Frag) (G H : Hp) (d : D) (v : V) : Prop:=Rep K G d v \/ ∃ (m : Mo) (a : Addr) (vs : List V),d = m.d /\ v = .ref a /\ H a = some (m.ho vs) /\ m.ok /\ RepL K G m.vals vs
theorem RepB.grow {K : PySem.W.Frag} {G H G' H' : Hp} {d : D} {v : V} (r : RepB K G H d v) (g : Grow G H G' H') : RepB K G' H' d v:=by
 rcases r with r | ⟨m,a,vs,h1,h2,h3,h4,h5⟩
 ·exact .inl (r.mono g.g)
 ·exact .inr ⟨m,a,vs,h1,h2,g.h _ _ h3,h4,h5.mono g.g⟩
theorem RepB.lst {K : PySem.W.Frag} {G H : Hp} {ds : List D} {v : V} (r : RepB K G H (.lst ds) v) (s : Same G H) : ∃ a vs,v = .ref a /\ SqL K H a vs /\ RepL K G ds vs:=by
 rcases r with r | ⟨m,a,vs,h1,h2,h3,h4,h5⟩
 ·simp only [Rep] at r
  obtain ⟨a,vs,h1,h2,h3⟩:=r
  exact ⟨a,vs,h1,s.sqL h2,h3⟩
 ·cases m with
  | lst xs=>cases h1; exact ⟨a,vs,h2,SqL.of h3,h5⟩
  | dic ks xs=>cases h1
theorem RepB.tup {K : PySem.W.Frag} {G H : Hp} {ds : List D} {v : V} (r : RepB K G H (.tup ds) v) : Rep K G (.tup ds) v:=by
 rcases r with r | ⟨m,a,vs,h1,_⟩
 ·exact r
 ·cases m <;> cases h1
theorem RepB.dic {K : PySem.W.Frag} {G H : Hp} {ks : List Key} {ds : List D} {v : V} (r : RepB K G H (.dic ks ds) v) (s : Same G H) : ∃ a vs,v = .ref a /\ Rd H a (.dK (ks.zip vs)) /\ ks.length = ds.length /\ ks.Nodup /\ RepL K G ds vs:=by
 rcases r with r | ⟨m,a,vs,h1,h2,h3,h4,h5⟩
 ·simp only [Rep] at r
  obtain ⟨a,vs,h1,h2,h3,h4,h5⟩:=r
  exact ⟨a,vs,h1,s.rd h2,h3,h4,h5⟩
 ·cases m with
  | lst xs=>cases h1
  | dic ks' xs=>cases h1; exact ⟨a,vs,h2,.inl h3,h4.1,h4.2,h5⟩
theorem RepB.all {K : PySem.W.Frag} {G H : Hp} {d : D} {v : V} (r : RepB K G H d v) (s : Same G H) : Rep K H d v:=by
 rcases r with r | ⟨m,a,vs,h1,h2,h3,h4,h5⟩
 ·exact r.mono s
 ·subst h1
  cases m with
  | lst xs=>simp only [Mo.d,Rep]; exact ⟨a,vs,h2,SqL.of h3,h5.mono s⟩
  | dic ks xs=>simp only [Mo.d,Rep]; exact ⟨a,vs,h2,.inl h3,h4.1,h4.2,h5.mono s⟩
def RepLB (K : PySem.W.Frag) (G H : Hp) : List D->List V->Prop
 | [],vs=>vs = []
 | d::ds,vs=>∃ v r,vs = v::r /\ RepB K G H d v /\ RepLB K G H ds r
abbrev FE:=En->Option D
def Gives (K : PySem.W.Frag) (t : TE) (f : FE) : Prop:=∀ (B G H : Hp) (δ : En) (σ : St) (d : D) (Q : VK),Same G H->RepS K B G H δ σ->f δ = some d->
 (∀ v G' H',Grow G H G' H'->Rep K G' d v->Q v H')->t σ H Q
def GivesB (K : PySem.W.Frag) (t : TE) (f : FE) : Prop:=∀ (B G H : Hp) (δ : En) (σ : St) (d : D) (Q : VK),Same G H->RepS K B G H δ σ->f δ = some d->
 (∀ v G' H',Grow G H G' H'->RepB K G' H' d v->Q v H')->t σ H Q
def PD (X : Cx) (e : Expr) (f : FE) : Prop:=∃ t,PE X e t /\ Gives X.K t f
def PB (X : Cx) (e : Expr) (f : FE) : Prop:=∃ t,PE X e t /\ GivesB X.K t f
theorem PD.pb {X : Cx} {e : Expr} {f : FE} (h : PD X e f) : PB X e f:=by
 obtain ⟨t,pt,k⟩:=h
 exact ⟨t,pt,fun B G H δ σ d Q sG rs ef q=>k B G H δ σ d Q sG rs ef fun v G' H' g r=>q v G' H' g (.inl r)⟩
inductive Rs where
 | sh (d : D) | fr (m : Mo)
@[simp] def Rs.d : Rs->D | .sh d=>d | .fr m=>m.d
@[simp] def Rs.sl : Rs->Sl | .sh d=>.sh d | .fr m=>.pv m none
abbrev FR:=En->Option Rs
def WantR (K : PySem.W.Frag) (G H : Hp) (Q : VK) : Rs->Prop
 | .sh d=>∀ v G' H',Grow G H G' H'->Rep K G' d v->Q v H'
 | .fr m=>∀ p vs G' H',Grow G H G' H'->H' p = none->m.ok->RepL K G' m.vals vs->Q (.ref p) (upd H' p (m.ho vs))
def GivesR (K : PySem.W.Frag) (t : TE) (f : FR) : Prop:=∀ (B G H : Hp) (δ : En) (σ : St) (r : Rs) (Q : VK),Same G H->RepS K B G H δ σ->f δ = some r->WantR K G H Q r->t σ H Q
def PR (X : Cx) (e : Expr) (f : FR) : Prop:=∃ t,PE X e t /\ GivesR X.K t f
@[simp] def fSh (f : FE) : FR:=fun δ=>(f δ).map .sh
@[simp] def fPub (f : FR) : FE:=fun δ=>(f δ).map Rs.d
theorem PD.pr {X : Cx} {e : Expr} {f : FE} (h : PD X e f) : PR X e (fSh f):=by
 obtain ⟨t,pt,k⟩:=h
 refine ⟨t,pt,fun B G H δ σ r Q sG rs ef q=>?_⟩
 unfold fSh at ef
 obtain ⟨d,e1,rfl⟩:=omE ef
 exact k B G H δ σ d Q sG rs e1 q
theorem rep_pub {K : PySem.W.Frag} {G : Hp} {p : Addr} {m : Mo} {vs : List V} (hn : G p = none) (ok : m.ok) (r : RepL K G m.vals vs) : Rep K (upd G p (m.ho vs)) m.d (.ref p):=by
 cases m with
 | lst xs=>simp only [Mo.d,Rep]; exact ⟨p,vs,rfl,SqL.of upd_same,r.mono (same_new _ hn)⟩
 | dic ks xs=>simp only [Mo.d,Rep]; exact ⟨p,vs,rfl,.inl upd_same,ok.1,ok.2,r.mono (same_new _ hn)⟩
theorem WantR.of {K : PySem.W.Frag} {G H : Hp} {Q : VK} {r : Rs} (q : ∀ v G' H',Grow G H G' H'->Rep K G' r.d v->Q v H') : WantR K G H Q r:=by
 cases r with
 | sh d=>exact q
 | fr m=>exact fun p vs G' H' g hp ok rl=>q _ _ _ (g.trans (Grow.laid g.s _ hp)) (rep_pub (g.s.free hp) ok rl)
theorem PR.pd {X : Cx} {e : Expr} {f : FR} (h : PR X e f) : PD X e (fPub f):=by
 obtain ⟨t,pt,k⟩:=h
 refine ⟨t,pt,fun B G H δ σ d Q sG rs ef q=>?_⟩
 unfold fPub at ef
 obtain ⟨r,e1,rfl⟩:=omE ef
 exact k B G H δ σ r Q sG rs e1 (WantR.of q)
def PDT (X : Cx) (e : Expr) (f : En->Option Bool) : Prop:=∃ t,PT X e t /\ ∀ (B G H : Hp) (δ : En) (σ : St) (b : Bool) (Q : Bool->Hp->Prop),Same G H->RepS X.K B G H δ σ->f δ = some b->
 (∀ G' H',Grow G H G' H'->Q b H')->t σ H Q
def PDW (X : Cx) (e : Expr) (f : En->Option Bool) : Prop:=∃ t,PW X e t /\ ∀ (B G H : Hp) (δ : En) (σ : St) (b : Bool) (Q : Bool->Hp->Prop),Same G H->RepS X.K B G H δ σ->f δ = some b->
 (∀ G' H',Grow G H G' H'->Q b H')->t σ H Q
def PAD (X : Cx) (es : List Expr) (f : En->Option (List D)) : Prop:=∃ t,PA X es t /\ ∀ (B G H : Hp) (δ : En) (σ : St) (ds : List D) (Q : List V->Hp->Prop),Same G H->RepS X.K B G H δ σ->f δ = some ds->
 (∀ vs G' H',Grow G H G' H'->RepL X.K G' ds vs->Q vs H')->t σ H Q
def PAB (X : Cx) (es : List Expr) (f : En->Option (List D)) : Prop:=∃ t,PA X es t /\ ∀ (B G H : Hp) (δ : En) (σ : St) (ds : List D) (Q : List V->Hp->Prop),Same G H->RepS X.K B G H δ σ->f δ = some ds->
 (∀ vs G' H',Grow G H G' H'->RepLB X.K G' H' ds vs->Q vs H')->t σ H Q
section
variable {X : Cx} {e a b c : Expr} {es : List Expr} {f g h : FE} {pos p : Pos}
@[simp] def fVar (i : Nat) : FE:=fun δ=>match δ[i]? with | some (some (.sh d))=>some d | _=>none
theorem pd_var (i : Nat) {x : Str} (hN : X.N[i]? = some x:=by rfl) (hv : Vis X.env.scope x:=by first | exact Or.inl rfl | exact Or.inr (Or.inl rfl) | exact Or.inr (Or.inr rfl)) (hd : (x == ("__debug__" : Str)) = false:=by decide)
  (hcd : (x == ("__classdict__" : Str)) = false:=by decide) : PD X (.Name x pos) (fVar i):=by
 refine ⟨tVar i,pe_var hN hv hd hcd,fun B G H δ σ d Q sG rs ef k=>?_⟩
 unfold fVar at ef
 split at ef
 ·rename_i d' ed
  cases ef
  obtain ⟨v,h1,h2⟩:=rs.at_ i _ ed
  exact ⟨v,h1,k v G H (Grow.refl sG) h2⟩
 ·cases ef
@[simp] def fVarB (i : Nat) : FE:=fun δ=>match δ[i]? with | some (some x)=>if x.ok = true then some x.d else none | _=>none
theorem pb_var (i : Nat) {x : Str} (hN : X.N[i]? = some x:=by rfl) (hv : Vis X.env.scope x:=by first | exact Or.inl rfl | exact Or.inr (Or.inl rfl) | exact Or.inr (Or.inr rfl)) (hd : (x == ("__debug__" : Str)) = false:=by decide)
  (hcd : (x == ("__classdict__" : Str)) = false:=by decide) : PB X (.Name x pos) (fVarB i):=by
 refine ⟨tVar i,pe_var hN hv hd hcd,fun B G H δ σ d Q sG rs ef k=>?_⟩
 unfold fVarB at ef
 split at ef
 ·rename_i y ed
  split at ef
  case isFalse=>cases ef
  rename_i yok
  cases ef
  obtain ⟨v,h1,h2⟩:=rs.at_ i _ ed
  refine ⟨v,h1,k v G H (Grow.refl sG) ?_⟩
  cases y with
  | ob c=>cases yok
  | tk _ _ _=>cases yok
  | sh d=>exact .inl h2
  | pv m o=>
   obtain ⟨a,vs,e1,_,_,e2,e3,e4,_⟩:=h2
   exact .inr ⟨m,a,vs,rfl,e1,e2,e3,e4⟩
 ·cases ef
@[simp] def fC (d : D) : FE:=fun _=>some d
theorem pd_int {i j} : PD X (.Constant (.int i) j pos) (fC (.int i)):=⟨_,pe_int,fun B G H δ σ d Q sG rs ef k=>by cases ef; exact k _ G H (Grow.refl sG) (by simp [Rep])⟩
theorem pd_bl {i j} : PD X (.Constant (.bool i) j pos) (fC (.bl i)):=⟨_,pe_bl,fun B G H δ σ d Q sG rs ef k=>by cases ef; exact k _ G H (Grow.refl sG) (by simp [Rep])⟩
theorem pd_str {i j} : PD X (.Constant (.str i) j pos) (fC (.str i)):=⟨_,pe_str,fun B G H δ σ d Q sG rs ef k=>by cases ef; exact k _ G H (Grow.refl sG) (by simp [Rep])⟩
theorem pd_glob {x : Str} {v : V} {u : Value} {d : D} (hg : Gl X x) (hm : X.mg x = some u) (r : RelV v u) (rep : ∀ G,Rep X.K G d v) (hd : (x == ("__debug__" : Str)) = false:=by decide) : PD X (.Name x pos) (fC d):=
 ⟨_,pe_glob hg hm r hd,fun B G H δ σ d Q sG rs ef k=>by cases ef; exact k _ G H (Grow.refl sG) (rep G)⟩
@[simp] def fNil : En->Option (List D):=fun _=>some []
@[simp] def fCons (f : FE) (g : En->Option (List D)) : En->Option (List D):=fun δ=>(f δ).bind fun d=>(g δ).bind fun ds=>some (d::ds)
theorem pad_nil : PAD X [] fNil:=⟨_,pa_nil,fun B G H δ σ d Q sG rs ef k=>by cases ef; exact k _ G H (Grow.refl sG) (by simp [RepL])⟩
theorem pad_cons {g : En->Option (List D)} (ha : PD X e f) (hr : PAD X es g) (hs : starEach (e::es) X.env = (false,eval e X.env)::starEach es X.env:=by rfl) : PAD X (e::es) (fCons f g):=by
 obtain ⟨ta,pa,ka⟩:=ha
 obtain ⟨tr,pr,kr⟩:=hr
 refine ⟨_,pa_cons pa pr hs,fun B G H δ σ ds Q sG rs ef k=>?_⟩
 unfold fCons at ef
 obtain ⟨d,e1,ef⟩:=obE ef
 obtain ⟨ds',e2,ef⟩:=obE ef
 cases ef
 refine ka B G H δ σ d _ sG rs e1 fun v G1 H1 g1 r1=>kr B G1 H1 δ σ ds' _ g1.s (rs.grow g1) e2 fun vs G2 H2 g2 r2=>?_
 exact k _ G2 H2 (g1.trans g2) (by simp only [RepL]; exact ⟨v,vs,rfl,r1.mono g2.g,r2⟩)
theorem pab_nil : PAB X [] fNil:=⟨_,pa_nil,fun B G H δ σ d Q sG rs ef k=>by cases ef; exact k _ G H (Grow.refl sG) rfl⟩
theorem pab_cons {g : En->Option (List D)} (ha : PB X e f) (hr : PAB X es g) (hs : starEach (e::es) X.env = (false,eval e X.env)::starEach es X.env:=by rfl) : PAB X (e::es) (fCons f g):=by
 obtain ⟨ta,pa,ka⟩:=ha
 obtain ⟨tr,pr,kr⟩:=hr
 refine ⟨_,pa_cons pa pr hs,fun B G H δ σ ds Q sG rs ef k=>?_⟩
 unfold fCons at ef
 obtain ⟨d,e1,ef⟩:=obE ef
 obtain ⟨ds',e2,ef⟩:=obE ef
 cases ef
 refine ka B G H δ σ d _ sG rs e1 fun v G1 H1 g1 r1=>kr B G1 H1 δ σ ds' _ g1.s (rs.grow g1) e2 fun vs G2 H2 g2 r2=>?_
 exact k _ G2 H2 (g1.trans g2) ⟨v,vs,rfl,r1.grow g2,r2⟩
def spD (K : PySem.W.Frag) (M : List D->Option Rs) : Sp:=fun vs H Q _=>∃ G ds r,Same G H /\ RepL K G ds vs /\ M ds = some r /\ WantR K G H Q r
def DefOk (P : Program) (w : World) (K : PySem.W.Frag) (mg : Str->Option Value) (base : Heap) (k : Nat) (x : Str) (ps : List Str) (M : List D->Option Rs) : Prop:=
 ∃ f fd,FnOk P w K mg base CX0 k f fd ps (spD K M) /\ Binds K fd ps [] /\ PySem.W.keepIn K (.ref f) = true /\ mg x = some (.ref f)
@[simp] def fCallR (M : List D->Option Rs) (g : En->Option (List D)) : FR:=fun δ=>(g δ).bind M
theorem WantR.mono {K : PySem.W.Frag} {G H G1 H1 : Hp} {Q : VK} {r : Rs} (q : WantR K G H Q r) (g : Grow G H G1 H1) : WantR K G1 H1 Q r:=by
 cases r with
 | sh d=>exact fun v G' H' g'=>q v G' H' (g.trans g')
 | fr m=>exact fun p vs G' H' g'=>q p vs G' H' (g.trans g')
theorem pr_call {k : Nat} {x : Str} {ps : List Str} {M : List D->Option Rs} {g : En->Option (List D)} (F : DefOk X.prog X.w X.K X.mg X.base k x ps M) (hr : Room k X.A) (ha : PAD X (e::es) g) (hg : Gl X x:=by rfl)
  (hdb : (x == ("__debug__" : Str)) = false:=by decide) (he : starEach (e::es) X.env = (false,eval e X.env)::starEach es X.env:=by rfl) (hpl : (backTo pos (starEach es X.env)).any (·.1) = false:=by rfl) :
  PR X (.Call (.Name x p) (e::es) [] pos) (fCallR M g):=by
 obtain ⟨f,fd,F,hb,hk,hm⟩:=F
 obtain ⟨ta,pa,ka⟩:=ha
 refine ⟨_,pe_call F hr hg hm hk hb .nil pass0 pa hdb he hpl,fun B G H δ σ r Q sG rs ef k=>?_⟩
 unfold fCallR at ef
 obtain ⟨ds,e1,ef⟩:=obE ef
 refine ka B G H δ σ ds _ sG rs e1 fun vs G1 H1 g1 r1=>?_
 rw [List.append_nil]
 exact ⟨G1,ds,r,g1.s,r1,ef,k.mono g1⟩
def flatD : D->Bool | .non=>true | .bl _=>true | .int _=>true | .str _=>true | _=>false
def CallD (X : Cx) (f : Value) (c : List D->Option D) : Prop:=∃ r,CallR X f r /\ ∀ (G H : Hp) (ds : List D) (vs : List V) (d : D) (Q : VK),Same G H->RepLB X.K G H ds vs->c ds = some d->
 (∀ v G' H',Grow G H G' H'->Rep X.K G' d v->Q v H')->r vs H Q
@[simp] def fCallB (M : List D->Option D) (g : En->Option (List D)) : FE:=fun δ=>(g δ).bind M
theorem pd_callB {x : Str} {id : String} {cD : List D->Option D} {g : En->Option (List D)} (hc : CallD X (.builtin id) cD) (hm : X.mg x = none) (hv : bootBuiltins x = some (.builtin id)) (ha : PAB X (e::es) g) (hg : Gl X x:=by rfl)
  (hn : x ≠ "__name__":=by decide) (hdb : (x == ("__debug__" : Str)) = false:=by decide)
  (he : starEach (e::es) X.env = (false,eval e X.env)::starEach es X.env:=by rfl) (hpl : (backTo pos (starEach es X.env)).any (·.1) = false:=by rfl) : PD X (.Call (.Name x p) (e::es) [] pos) (fCallB cD g):=by
 obtain ⟨r,hc,kc⟩:=hc
 obtain ⟨ta,pa,ka⟩:=ha
 refine ⟨_,pe_callB hc hg hm hv pa hn hdb he hpl,fun B G H δ σ d Q sG rs ef k=>?_⟩
 unfold fCallB at ef
 obtain ⟨ds,e1,ef⟩:=obE ef
 exact ka B G H δ σ ds _ sG rs e1 fun vs G1 H1 g1 r1=>kc G1 H1 ds vs d Q g1.s r1 ef fun v G' H' g2 r2=>k v G' H' (g1.trans g2) r2
theorem pd_callTy {x : Str} {T : String} {cD : List D->Option D} {g : En->Option (List D)} (hc : CallD X (.type T) cD) (hm : X.mg x = none) (hv : bootBuiltins x = some (.type T)) (ha : PAB X (e::es) g) (hg : Gl X x:=by rfl)
  (hn : x ≠ "__name__":=by decide) (hdb : (x == ("__debug__" : Str)) = false:=by decide)
  (he : starEach (e::es) X.env = (false,eval e X.env)::starEach es X.env:=by rfl) (hpl : (backTo pos (starEach es X.env)).any (·.1) = false:=by rfl) : PD X (.Call (.Name x p) (e::es) [] pos) (fCallB cD g):=by
 obtain ⟨r,hc,kc⟩:=hc
 obtain ⟨ta,pa,ka⟩:=ha
 refine ⟨_,pe_callTy hc hg hm hv pa hn hdb he hpl,fun B G H δ σ d Q sG rs ef k=>?_⟩
 unfold fCallB at ef
 obtain ⟨ds,e1,ef⟩:=obE ef
 exact ka B G H δ σ ds _ sG rs e1 fun vs G1 H1 g1 r1=>kc G1 H1 ds vs d Q g1.s r1 ef fun v G' H' g2 r2=>k v G' H' (g1.trans g2) r2
def OpD (X : Cx) (f : Value->Value->Sem Value) (o : D->D->Option D) : Prop:=∃ r,OpR X f r /\ ∀ (G H : Hp) (x y : D) (v u : V) (d : D) (Q : VK),Same G H->RepB X.K G H x v->RepB X.K G H y u->o x y = some d->
 (∀ v G' H',Grow G H G' H'->Rep X.K G' d v->Q v H')->r v u H Q
theorem OpD.or {F : Value->Value->Sem Value} {o o' : D->D->Option D} (h : OpD X F o) (h' : OpD X F o') : OpD X F (fun x y=>(o x y).or (o' x y)):=by
 obtain ⟨r,h1,h2⟩:=h
 obtain ⟨r',h1',h2'⟩:=h'
 refine ⟨_,h1.or h1',fun G H x y v u d Q sG rx ry e k=>?_⟩
 cases eo : o x y with
 | some z=>
  have : z = d:=by simpa [eo] using e
  subst this
  exact .inl (h2 G H x y v u z Q sG rx ry eo k)
 | none=>exact .inr (h2' G H x y v u d Q sG rx ry (by simpa [eo] using e) k)
@[simp] def f2 (o : D->D->Option D) (f g : FE) : FE:=fun δ=>(f δ).bind fun x=>(g δ).bind fun y=>o x y
theorem gives_op {r : R2} {o : D->D->Option D} {ta tb : TE} (ka : GivesB X.K ta f) (kb : GivesB X.K tb g) (ko : ∀ (G H : Hp) (x y : D) (v u : V) (d : D) (Q : VK),Same G H->RepB X.K G H x v->RepB X.K G H y u->o x y = some d->
  (∀ v G' H',Grow G H G' H'->Rep X.K G' d v->Q v H')->r v u H Q) : Gives X.K (tOp r ta tb) (f2 o f g):=fun B G H δ σ d Q sG rs ef k=>by
 unfold f2 at ef
 obtain ⟨x,e1,ef⟩:=obE ef
 obtain ⟨y,e2,ef⟩:=obE ef
 exact ka B G H δ σ x _ sG rs e1 fun v G1 H1 g1 r1=>kb B G1 H1 δ σ y _ g1.s (rs.grow g1) e2 fun u G2 H2 g2 r2=>
  ko G2 H2 x y v u d Q g2.s (r1.grow g2) r2 ef fun v G' H' g3 r3=>k v G' H' ((g1.trans g2).trans g3) r3
theorem pd_op {op : Operator} {o : D->D->Option D} (ho : OpD X (binaryOp op) o) (ha : PB X a f) (hb : PB X b g) : PD X (.BinOp a op b pos) (f2 o f g):=by
 obtain ⟨r,ho,ko⟩:=ho
 obtain ⟨ta,pa,ka⟩:=ha
 obtain ⟨tb,pb,kb⟩:=hb
 exact ⟨_,pe_op ho pa pb,gives_op ka kb ko⟩
theorem pd_cmp {op : CmpOp} {o : D->D->Option D} (ho : OpD X (compareOp op) o) (ha : PB X a f) (hb : PB X b g) (hm : behindInMarks op b = false:=by first | exact nomark _ | with_unfolding_all rfl) : PD X (.Compare a [op] [b] pos) (f2 o f g):=by
 obtain ⟨r,ho,ko⟩:=ho
 obtain ⟨ta,pa,ka⟩:=ha
 obtain ⟨tb,pb,kb⟩:=hb
 exact ⟨_,pe_cmpR ho pa pb hm,gives_op ka kb ko⟩
@[simp] def fB (f : FE) : En->Option Bool:=fun δ=>match f δ with | some (.bl b)=>some b | _=>none
theorem fB_some {δ : En} {b : Bool} (e : fB f δ = some b) : f δ = some (.bl b):=by
 unfold fB at e
 split at e
 ·rename_i h; cases e; exact h
 ·cases e
theorem pdt_cmp {op : CmpOp} {o : D->D->Option D} (ho : OpD X (compareOp op) o) (ha : PB X a f) (hb : PB X b g) (hm : behindInMarks op b = false:=by first | exact nomark _ | with_unfolding_all rfl) : PDT X (.Compare a [op] [b] pos) (fB (f2 o f g)):=by
 obtain ⟨r,ho,ko⟩:=ho
 obtain ⟨ta,pa,ka⟩:=ha
 obtain ⟨tb,pb,kb⟩:=hb
 refine ⟨_,pt_cmpR ho pa pb hm,fun B G H δ σ q Q sG rs ef k=>?_⟩
 refine gives_op ka kb ko B G H δ σ _ _ sG rs (fB_some ef) fun v G' H' g1 r1=>?_
 simp only [Rep] at r1
 exact ⟨q,r1,k G' H' g1⟩
theorem pdt_val (h : PD X e f) (he : ∀ whole,isTrue e X.env whole = (do let v <- whole; standAt e.pos; holding [v] (truthy v)):=by intro _; rfl) : PDT X e (fB f):=by
 obtain ⟨t,pe,ke⟩:=h
 refine ⟨_,pt_val pe he,fun B G H δ σ q Q sG rs ef k=>?_⟩
 refine ke B G H δ σ _ _ sG rs (fB_some ef) fun v G' H' g1 r1=>?_
 simp only [Rep] at r1
 exact ⟨q,r1,k G' H' g1⟩
@[simp] def f3 (o o' : D->D->Option D) (f g h : FE) : FE:=fun δ=>(f δ).bind fun x=>(g δ).bind fun y=>(o x y).bind fun z=>match z with | .bl true=>(h δ).bind fun w=>o' y w | .bl false=>some (.bl false) | _=>none
theorem gives_chain {r r' : R2} {o o' : D->D->Option D} {ta tb tc : TE} (ka : GivesB X.K ta f) (kb : GivesB X.K tb g) (kc : GivesB X.K tc h) (ko : ∀ (G H : Hp) (x y : D) (v u : V) (d : D) (Q : VK),Same G H->RepB X.K G H x v->RepB X.K G H y u->o x y = some d->
  (∀ v G' H',Grow G H G' H'->Rep X.K G' d v->Q v H')->r v u H Q) (ko' : ∀ (G H : Hp) (x y : D) (v u : V) (d : D) (Q : VK),Same G H->RepB X.K G H x v->RepB X.K G H y u->o' x y = some d->
  (∀ v G' H',Grow G H G' H'->Rep X.K G' d v->Q v H')->r' v u H Q) : Gives X.K (tChain r r' ta tb tc) (f3 o o' f g h):=fun B G H δ σ d Q sG rs ef k=>by
 unfold f3 at ef
 obtain ⟨x,e1,ef⟩:=obE ef
 obtain ⟨y,e2,ef⟩:=obE ef
 obtain ⟨z,e3,ef⟩:=obE ef
 refine ka B G H δ σ x _ sG rs e1 fun v G1 H1 g1 r1=>kb B G1 H1 δ σ y _ g1.s (rs.grow g1) e2 fun u G2 H2 g2 r2=>ko G2 H2 x y v u z _ g2.s (r1.grow g2) r2 e3 fun zz G3 H3 g3 r3=>?_
 have g13:=(g1.trans g2).trans g3
 split at ef
 ·simp only [Rep] at r3
  obtain ⟨w,e4,ef⟩:=obE ef
  refine ⟨true,r3,?_⟩
  rw [if_pos rfl]
  exact kc B G3 H3 δ σ w _ g3.s (rs.grow g13) e4 fun q G4 H4 g4 r4=>ko' G4 H4 y w u q d Q g4.s (r2.grow (g3.trans g4)) r4 ef fun v G' H' g5 r5=>k v G' H' ((g13.trans g4).trans g5) r5
 ·simp only [Rep] at r3
  cases ef
  refine ⟨false,r3,?_⟩
  rw [if_neg Bool.false_ne_true]
  exact k _ G3 H3 g13 (by simp [Rep])
 ·cases ef
theorem pd_chain {op op' : CmpOp} {o o' : D->D->Option D} (ho : OpD X (compareOp op) o) (ho' : OpD X (compareOp op') o') (ha : PB X a f) (hb : PB X b g) (hc : PB X c h) (hm : lastMarks [op,op'] [b,c] = false:=by with_unfolding_all rfl) :
  PD X (.Compare a [op,op'] [b,c] pos) (f3 o o' f g h):=by
 obtain ⟨r,ho,ko⟩:=ho
 obtain ⟨r',ho',ko'⟩:=ho'
 obtain ⟨ta,pa,ka⟩:=ha
 obtain ⟨tb,pb,kb⟩:=hb
 obtain ⟨tc,pc,kc⟩:=hc
 exact ⟨_,pe_chain ho ho' pa pb pc hm,gives_chain ka kb kc ko ko'⟩
theorem pdt_chain {op op' : CmpOp} {o o' : D->D->Option D} (ho : OpD X (compareOp op) o) (ho' : OpD X (compareOp op') o') (ha : PB X a f) (hb : PB X b g) (hc : PB X c h) (hm : lastMarks [op,op'] [b,c] = false:=by with_unfolding_all rfl) :
  PDT X (.Compare a [op,op'] [b,c] pos) (fB (f3 o o' f g h)):=by
 obtain ⟨r,ho,ko⟩:=ho
 obtain ⟨r',ho',ko'⟩:=ho'
 obtain ⟨ta,pa,ka⟩:=ha
 obtain ⟨tb,pb,kb⟩:=hb
 obtain ⟨tc,pc,kc⟩:=hc
 refine ⟨_,pt_chain ho ho' pa pb pc hm,fun B G H δ σ q Q sG rs ef k=>?_⟩
 refine gives_chain ka kb kc ko ko' B G H δ σ _ _ sG rs (fB_some ef) fun v G' H' g1 r1=>?_
 simp only [Rep] at r1
 exact ⟨q,r1,k G' H' g1⟩
@[simp] def bAnd (f g : En->Option Bool) : En->Option Bool:=fun δ=>(f δ).bind fun x=>if x = true then g δ else some false
@[simp] def bOr (f g : En->Option Bool) : En->Option Bool:=fun δ=>(f δ).bind fun x=>if x = true then some true else g δ
@[simp] def bNot (f : En->Option Bool) : En->Option Bool:=fun δ=>(f δ).map (!·)
variable {fb gb : En->Option Bool} {rest : List Expr}
theorem PDW.pdt (h : PDW X e fb) : PDT X e fb:=by
 obtain ⟨t,pw,k⟩:=h
 exact ⟨t,pw.pt,k⟩
theorem pdw_and1 (ha : PDT X a fb) : PDW X (.BoolOp .And [a] pos) fb:=by
 obtain ⟨t,pt,k⟩:=ha
 exact ⟨t,pw_and1 pt,k⟩
theorem pdw_or1 (ha : PDT X a fb) : PDW X (.BoolOp .Or [a] pos) fb:=by
 obtain ⟨t,pt,k⟩:=ha
 exact ⟨t,pw_or1 pt,k⟩
theorem pdw_and (ha : PDT X a fb) (hb : PDW X (.BoolOp .And (b::rest) pos) gb) : PDW X (.BoolOp .And (a::b::rest) pos) (bAnd fb gb):=by
 obtain ⟨t,pt,k1⟩:=ha
 obtain ⟨u,pu,k2⟩:=hb
 refine ⟨_,pw_and pt pu,fun B G H δ σ q Q sG rs ef k=>?_⟩
 unfold bAnd at ef
 obtain ⟨x,e1,ef⟩:=obE ef
 refine k1 B G H δ σ x _ sG rs e1 fun G1 H1 g1=>?_
 cases x with
 | true=>rw [if_pos rfl] at ef ⊢; exact k2 B G1 H1 δ σ q Q g1.s (rs.grow g1) ef fun G' H' g2=>k G' H' (g1.trans g2)
 | false=>rw [if_neg Bool.false_ne_true] at ef ⊢; cases ef; exact k G1 H1 g1
theorem pdw_or (ha : PDT X a fb) (hb : PDW X (.BoolOp .Or (b::rest) pos) gb) : PDW X (.BoolOp .Or (a::b::rest) pos) (bOr fb gb):=by
 obtain ⟨t,pt,k1⟩:=ha
 obtain ⟨u,pu,k2⟩:=hb
 refine ⟨_,pw_or pt pu,fun B G H δ σ q Q sG rs ef k=>?_⟩
 unfold bOr at ef
 obtain ⟨x,e1,ef⟩:=obE ef
 refine k1 B G H δ σ x _ sG rs e1 fun G1 H1 g1=>?_
 cases x with
 | false=>rw [if_neg Bool.false_ne_true] at ef ⊢; exact k2 B G1 H1 δ σ q Q g1.s (rs.grow g1) ef fun G' H' g2=>k G' H' (g1.trans g2)
 | true=>rw [if_pos rfl] at ef ⊢; cases ef; exact k G1 H1 g1
theorem pdt_not (ha : PDT X a fb) : PDT X (.UnaryOp .Not a pos) (bNot fb):=by
 obtain ⟨t,pt,k1⟩:=ha
 refine ⟨_,L2.pt_not pt,fun B G H δ σ q Q sG rs ef k=>?_⟩
 unfold bNot at ef
 obtain ⟨x,e1,ef⟩:=omE ef
 subst ef
 exact k1 B G H δ σ x _ sG rs e1 fun G1 H1 g1=>k G1 H1 g1
@[simp] def fAnd (f g : FE) : FE:=fun δ=>match f δ with | some (.bl true)=>g δ | some (.bl false)=>some (.bl false) | _=>none
@[simp] def fOr (f g : FE) : FE:=fun δ=>match f δ with | some (.bl true)=>some (.bl true) | some (.bl false)=>g δ | _=>none
@[simp] def fNot (f : FE) : FE:=fun δ=>match f δ with | some (.bl b)=>some (.bl (!b)) | _=>none
theorem pd_one {op} (h : PD X a f) : PD X (.BoolOp op [a] pos) f:=by
 obtain ⟨t,pt,k⟩:=h
 exact ⟨t,pe_one pt,k⟩
theorem pd_and (ha : PD X a f) (hb : PD X (.BoolOp .And (b::rest) pos) g) : PD X (.BoolOp .And (a::b::rest) pos) (fAnd f g):=by
 obtain ⟨t,pt,k1⟩:=ha
 obtain ⟨u,pu,k2⟩:=hb
 refine ⟨_,pe_and pt pu,fun B G H δ σ q Q sG rs ef k=>?_⟩
 unfold fAnd at ef
 split at ef
 ·rename_i e1
  refine k1 B G H δ σ _ _ sG rs e1 fun v G1 H1 g1 r1=>⟨true,by simpa only [Rep] using r1,?_⟩
  rw [if_pos rfl]
  exact k2 B G1 H1 δ σ q Q g1.s (rs.grow g1) ef fun v G' H' g2 r2=>k v G' H' (g1.trans g2) r2
 ·rename_i e1
  cases ef
  refine k1 B G H δ σ _ _ sG rs e1 fun v G1 H1 g1 r1=>⟨false,by simpa only [Rep] using r1,?_⟩
  rw [if_neg Bool.false_ne_true]
  exact k _ G1 H1 g1 (by simp [Rep])
 ·cases ef
theorem pd_or (ha : PD X a f) (hb : PD X (.BoolOp .Or (b::rest) pos) g) : PD X (.BoolOp .Or (a::b::rest) pos) (fOr f g):=by
 obtain ⟨t,pt,k1⟩:=ha
 obtain ⟨u,pu,k2⟩:=hb
 refine ⟨_,pe_or pt pu,fun B G H δ σ q Q sG rs ef k=>?_⟩
 unfold fOr at ef
 split at ef
 ·rename_i e1
  cases ef
  refine k1 B G H δ σ _ _ sG rs e1 fun v G1 H1 g1 r1=>⟨true,by simpa only [Rep] using r1,?_⟩
  rw [if_pos rfl]
  exact k _ G1 H1 g1 (by simp [Rep])
 ·rename_i e1
  refine k1 B G H δ σ _ _ sG rs e1 fun v G1 H1 g1 r1=>⟨false,by simpa only [Rep] using r1,?_⟩
  rw [if_neg Bool.false_ne_true]
  exact k2 B G1 H1 δ σ q Q g1.s (rs.grow g1) ef fun v G' H' g2 r2=>k v G' H' (g1.trans g2) r2
 ·cases ef
theorem pd_not (ha : PD X a f) : PD X (.UnaryOp .Not a pos) (fNot f):=by
 obtain ⟨t,pt,k1⟩:=ha
 refine ⟨_,pe_not pt,fun B G H δ σ q Q sG rs ef k=>?_⟩
 unfold fNot at ef
 split at ef
 ·rename_i b e1
  cases ef
  refine k1 B G H δ σ _ _ sG rs e1 fun v G1 H1 g1 r1=>⟨b,by simpa only [Rep] using r1,k _ G1 H1 g1 (by simp [Rep])⟩
 ·cases ef
@[simp] def fIf (c : En->Option Bool) (f g : FE) : FE:=fun δ=>(c δ).bind fun x=>if x = true then f δ else g δ
theorem pd_if {c : Expr} (hc : PDT X c fb) (ha : PD X a f) (hb : PD X b g) : PD X (.IfExp c a b pos) (fIf fb f g):=by
 obtain ⟨tc,pc,kc⟩:=hc
 obtain ⟨ta,pa,ka⟩:=ha
 obtain ⟨tb,pb,kb⟩:=hb
 refine ⟨_,pe_ifExp pc pa pb,fun B G H δ σ q Q sG rs ef k=>?_⟩
 unfold fIf at ef
 obtain ⟨x,e1,ef⟩:=obE ef
 refine kc B G H δ σ x _ sG rs e1 fun G1 H1 g1=>?_
 cases x with
 | true=>rw [if_pos rfl] at ef ⊢; exact ka B G1 H1 δ σ q Q g1.s (rs.grow g1) ef fun v G' H' g2=>k v G' H' (g1.trans g2)
 | false=>rw [if_neg Bool.false_ne_true] at ef ⊢; exact kb B G1 H1 δ σ q Q g1.s (rs.grow g1) ef fun v G' H' g2=>k v G' H' (g1.trans g2)
@[simp] def fTup (g : En->Option (List D)) : FE:=fun δ=>(g δ).bind fun ds=>if ds.length <= sizeLine then some (.tup ds) else none
theorem rep_tup {K : PySem.W.Frag} {G : Hp} {p : Addr} {ds : List D} {vs : List V} (hn : G p = none) (r : RepL K G ds vs) : Rep K (upd G p (.tup vs)) (.tup ds) (.ref p):=by
 simp only [Rep]
 exact ⟨p,vs,rfl,SqT.of upd_same,r.mono (same_new _ hn)⟩
theorem rep_lst {K : PySem.W.Frag} {G : Hp} {p : Addr} {ds : List D} {vs : List V} (hn : G p = none) (r : RepL K G ds vs) : Rep K (upd G p (.lst vs)) (.lst ds) (.ref p):=by
 simp only [Rep]
 exact ⟨p,vs,rfl,SqL.of upd_same,r.mono (same_new _ hn)⟩
theorem pd_tup {x1} {g : En->Option (List D)} (ha : PAD X es g) : PD X (.Tuple es x1 pos) (fTup g):=by
 obtain ⟨t,pt,k1⟩:=ha
 refine ⟨_,pe_tup pt,fun B G H δ σ q Q sG rs ef k=>?_⟩
 unfold fTup at ef
 obtain ⟨ds,e1,ef⟩:=obE ef
 split at ef
 ·rename_i hl
  cases ef
  exact k1 B G H δ σ ds _ sG rs e1 fun vs G1 H1 g1 r1=>⟨by rw [<- r1.length]; exact hl,fun p hp=>k _ _ _ (g1.trans (Grow.laid g1.s _ hp)) (rep_tup (g1.s.free hp) r1)⟩
 ·cases ef
@[simp] def fLstR (g : En->Option (List D)) : FR:=fun δ=>(g δ).bind fun ds=>if ds.length <= sizeLine then some (.fr (.lst ds)) else none
theorem pr_lst {g : En->Option (List D)} (ha : PAD X es g) : PR X (.List es pos) (fLstR g):=by
 obtain ⟨t,pt,k1⟩:=ha
 refine ⟨_,pe_lst pt,fun B G H δ σ q Q sG rs ef k=>?_⟩
 unfold fLstR at ef
 obtain ⟨ds,e1,ef⟩:=obE ef
 split at ef
 ·rename_i hl
  cases ef
  exact k1 B G H δ σ ds _ sG rs e1 fun vs G1 H1 g1 r1=>⟨by rw [<- r1.length]; exact hl,fun p hp=>k p vs G1 H1 g1 hp True.intro r1⟩
 ·cases ef
def ixD : D->D->Option D
 | .lst ds,.int i=>atI ds i
 | .tup ds,.int i=>atI ds i
 | .str z,.int i=>if z.length <= sizeLine then (atI z.cps.toList i).map fun c=>.str ⟨#[c]⟩ else none
 | _,_=>none
theorem RepL.atI {K : PySem.W.Frag} {H : Hp} {ds : List D} {vs : List V} {i : Int} {d : D} (r : RepL K H ds vs) (e : L2.atI ds i = some d) : ∃ v,L2.atI vs i = some v /\ Rep K H d v:=by
 unfold L2.atI at e ⊢
 rw [<- r.length]
 obtain ⟨j,e1,e2⟩:=obE e
 obtain ⟨v,h1,h2⟩:=r.get e2
 exact ⟨v,by rw [e1]; exact h1,h2⟩
def keyD : D->Option Key | .int i=>some (.inl i) | .str x=>some (.inr x) | _=>none
def valD (ks : List Key) (ds : List D) (k : Key) : Option D:=((ks.zip ds).find? fun kv=>decide (kv.1 = k)).map (·.2)
theorem valD_rep {K : PySem.W.Frag} {G : Hp} (k : Key) : ∀ {ks : List Key} {ds : List D} {vs : List V},ks.length = ds.length->RepL K G ds vs->(∀ d,valD ks ds k = some d->∃ v,valV (ks.zip vs) k = some v /\ Rep K G d v) /\ (valD ks ds k = none->valV (ks.zip vs) k = none)
 | [],_,_,_,_=>⟨fun d e=>(by cases e),fun _=>rfl⟩
 | k0::ks,[],_,hl,_=>by cases hl
 | k0::ks,d0::ds,_,hl,r=>by
  simp only [RepL] at r
  obtain ⟨v,us,rfl,r1,r2⟩:=r
  have ih:=valD_rep k (ks:=ks) (ds:=ds) (by simpa using hl) r2
  by_cases h : k0 = k
  ·subst h
   refine ⟨fun d e=>?_,fun e=>?_⟩
   ·have : d0 = d:=by simpa [valD] using e
    subst this
    exact ⟨v,by simp [valV],r1⟩
   ·simp [valD] at e
  ·have e1 : valD (k0::ks) (d0::ds) k = valD ks ds k:=by simp [valD,h]
   have e2 : valV ((k0::ks).zip (v::us)) k = valV (ks.zip us) k:=by simp [valV,h]
   rw [e1,e2]
   exact ih
theorem keyD_rep {K : PySem.W.Frag} {G H : Hp} {d : D} {k : Key} {v : V} (e : keyD d = some k) (r : RepB K G H d v) : v = kV k:=by
 rcases r with r | ⟨m,a,vs,h1,_⟩
 ·cases d <;> simp only [keyD,Rep] at e r <;> first | cases e | skip
  all_goals (subst r; rfl)
 ·subst h1
  cases m <;> cases e
theorem RepB.flat {K : PySem.W.Frag} {G H : Hp} {d : D} {v : V} (e : flatD d = true) (r : RepB K G H d v) : Rep K G d v:=by
 rcases r with r | ⟨m,a,vs,h1,_⟩
 ·exact r
 ·subst h1; cases m <;> cases e
def rIxD : R2:=fun x y H Q=>∃ a v,x = .ref a /\ DGet H a y (some v) /\ Q v H
theorem ix_dict (hu : X.A.units + 1 < cLine) : IxR X rIxD:=by
 intro value slice pins s σ H x y v u Q I rx ry h hs
 obtain ⟨a,w',rfl,g,q⟩:=h
 cases rx
 exact tail_any (dict_typeIs I g) PySem.slot_dict_getitem.lookup (d_getItem hu I g ry fun w2 s' I' r'=>⟨_,H,I',r',q⟩) hs
def ixA : D->D->Option D
 | .dic ks ds,y=>(keyD y).bind fun k=>valD ks ds k
 | x,y=>ixD x y
theorem pd_ix (hu : X.A.units + 1 < cLine) (ha : PB X a f) (hb : PB X b g) (hs : PlainIx b:=by intro _ _; rfl) : PD X (.Subscript a b pos) (f2 ixA f g):=by
 obtain ⟨ta,pa,ka⟩:=ha
 obtain ⟨tb,pb,kb⟩:=hb
 refine ⟨_,pe_ix (ix_seq.or (ix_dict hu)) pa pb hs,gives_op ka kb fun G H x y v u d Q sG rx ry e k=>?_⟩
 unfold ixA at e
 split at e
 ·obtain ⟨kk,e1,e2⟩:=obE e
  obtain ⟨a,vs,rfl,hd,hl,nd,rl⟩:=rx.dic sG
  obtain ⟨w',e3,r3⟩:=(valD_rep kk hl rl).1 d e2
  have:=keyD_rep e1 ry
  subst this
  exact .inr ⟨a,w',rfl,.inl ⟨_,kk,hd,rfl,e3.symm⟩,k w' G H (Grow.refl sG) r3⟩
 ·rename_i x' y' hx
  unfold ixD at e
  split at e
  ·obtain ⟨p,vs,rfl,hq,rl⟩:=rx.lst sG
   have ry:=ry.flat rfl
   simp only [Rep] at ry
   obtain ⟨w,e1,r1⟩:=rl.atI e
   exact .inl (.inl ⟨p,vs,_,w,rfl,ry,hq,e1,k w G H (Grow.refl sG) r1⟩)
  ·have rx:=rx.tup
   have ry:=ry.flat rfl
   simp only [Rep] at rx ry
   obtain ⟨p,vs,rfl,hq,rl⟩:=rx
   obtain ⟨w,e1,r1⟩:=rl.atI e
   exact .inl (.inr (.inl ⟨p,vs,_,w,rfl,ry,sG.sqT hq,e1,k w G H (Grow.refl sG) r1⟩))
  ·have rx:=rx.flat rfl
   have ry:=ry.flat rfl
   simp only [Rep] at rx ry
   split at e
   ·rename_i hl
    obtain ⟨c,e1,rfl⟩:=omE e
    exact .inl (.inr (.inr ⟨_,_,c,rx,ry,hl,e1,k _ G H (Grow.refl sG) (by simp [Rep])⟩))
   ·cases e
  ·cases e
end
section
variable {X : Cx}
theorem opd_i0 {f : Value->Value->Sem Value} {g : Int->Int->V} {g' : Int->Int->D} (h : OpR X f (rI0 g)) (hg : ∀ G i j,Rep X.K G (g' i j) (g i j)) :
  OpD X f (fun x y=>match x,y with | .int i,.int j=>some (g' i j) | _,_=>none):=by
 refine ⟨_,h,fun G H x y v u d Q sG rx ry e k=>?_⟩
 dsimp only at e
 split at e
 ·cases e
  have rx:=rx.flat rfl
  have ry:=ry.flat rfl
  simp only [Rep] at rx ry
  exact ⟨_,_,rx,ry,k _ G H (Grow.refl sG) (hg _ _ _)⟩
 ·cases e
theorem opd_i {f : Value->Value->Sem Value} {C : Int->Int->Prop} [∀ i j,Decidable (C i j)] {g : Int->Int->V} {g' : Int->Int->D} (h : OpR X f (rI C g)) (hg : ∀ G i j,Rep X.K G (g' i j) (g i j)) :
  OpD X f (fun x y=>match x,y with | .int i,.int j=>if C i j then some (g' i j) else none | _,_=>none):=by
 refine ⟨_,h,fun G H x y v u d Q sG rx ry e k=>?_⟩
 dsimp only at e
 split at e
 ·split at e
  ·rename_i hc
   cases e
   have rx:=rx.flat rfl
   have ry:=ry.flat rfl
   simp only [Rep] at rx ry
   exact ⟨_,_,rx,ry,hc,k _ G H (Grow.refl sG) (hg _ _ _)⟩
  ·cases e
 ·cases e
instance (i j : Int) : Decidable (CDiv i j):=inferInstanceAs (Decidable (_ /\ _))
instance (i j : Int) : Decidable (CMul i j):=inferInstanceAs (Decidable (_ \/ _))
instance (i j : Int) : Decidable (CPow i j):=inferInstanceAs (Decidable (_ /\ _ /\ _))
def iAdd : D->D->Option D | .int i,.int j=>some (.int (i + j)) | _,_=>none
def subD : D->D->Option D | .int i,.int j=>some (.int (i - j)) | _,_=>none
def iMul : D->D->Option D | .int i,.int j=>if CMul i j then some (.int (i * j)) else none | _,_=>none
def fdivD : D->D->Option D | .int i,.int j=>if CDiv i j then some (.int (i / j)) else none | _,_=>none
def modD : D->D->Option D | .int i,.int j=>if 0 < j then some (.int (i % j)) else none | _,_=>none
def powD : D->D->Option D | .int i,.int j=>if CPow i j then some (.int (i ^ j.toNat)) else none | _,_=>none
theorem od_iadd : OpD X (binaryOp .Add) iAdd:=opd_i0 op_add fun _ _ _=>by simp [Rep]
theorem od_sub : OpD X (binaryOp .Sub) subD:=opd_i0 op_sub fun _ _ _=>by simp [Rep]
theorem od_imul : OpD X (binaryOp .Mult) iMul:=opd_i op_mul fun _ _ _=>by simp [Rep]
theorem od_fdiv : OpD X (binaryOp .FloorDiv) fdivD:=opd_i op_fdiv fun _ _ _=>by simp [Rep]
theorem od_mod : OpD X (binaryOp .Mod) modD:=opd_i op_mod fun _ _ _=>by simp [Rep]
theorem od_pow : OpD X (binaryOp .Pow) powD:=opd_i op_pow fun _ _ _=>by simp [Rep]
def sAdd : D->D->Option D | .str i,.str j=>if i.length + j.length <= sizeLine then some (.str (i++j)) else none | _,_=>none
theorem od_sadd : OpD X (binaryOp .Add) sAdd:=by
 refine ⟨_,op_add_str,fun G H x y v u d Q sG rx ry e k=>?_⟩
 unfold sAdd at e
 split at e
 ·split at e
  ·rename_i hc
   cases e
   have rx:=rx.flat rfl
   have ry:=ry.flat rfl
   simp only [Rep] at rx ry
   exact ⟨_,_,rx,ry,hc,k _ G H (Grow.refl sG) (by simp [Rep])⟩
  ·cases e
 ·cases e
def rCatL (K : PySem.W.Frag) : R2:=fun x y H Q=>∃ l b xs zs,x = .ref l /\ y = .ref b /\ SqL K H l xs /\ SqL K H b zs /\ xs.length + zs.length <= sizeLine /\ ∀ p,H p = none->Q (.ref p) (upd H p (.lst (xs++zs)))
def lAdd : D->D->Option D | .lst i,.lst j=>if i.length + j.length <= sizeLine then some (.lst (i++j)) else none | _,_=>none
theorem od_ladd (h : OpR X (binaryOp .Add) (rCatL X.K)) : OpD X (binaryOp .Add) lAdd:=by
 refine ⟨_,h,fun G H x y v u d Q sG rx ry e k=>?_⟩
 unfold lAdd at e
 split at e
 ·split at e
  ·rename_i hc
   cases e
   obtain ⟨p1,xs,rfl,q1,r1⟩:=rx.lst sG
   obtain ⟨p2,ys,rfl,q2,r2⟩:=ry.lst sG
   exact ⟨p1,p2,xs,ys,rfl,rfl,q1,q2,by rw [<- r1.length,<- r2.length]; exact hc,fun p hp=>k _ _ _ (Grow.laid sG _ hp) (rep_lst (sG.free hp) (r1.append r2))⟩
  ·cases e
 ·cases e
def iCmp (f : Int->Int->Bool) : D->D->Option D | .int i,.int j=>some (.bl (f i j)) | _,_=>none
theorem od_le : OpD X (compareOp .LtE) (iCmp fun i j=>decide (i <= j)):=opd_i0 op_le fun _ _ _=>by simp [Rep]
theorem od_gt : OpD X (compareOp .Gt) (iCmp fun i j=>decide (j < i)):=opd_i0 op_gt fun _ _ _=>by simp [Rep]
theorem op_le_str : OpR X (compareOp .LtE) (fun x y H Q=>∃ i j,x = .str i /\ y = .str j /\ Q (.bl (!decide (j.cps.toList < i.cps.toList))) H):=by
 intro pins s σ H x y v u Q I rx ry h
 obtain ⟨i,j,rfl,rfl,q⟩:=h
 obtain ⟨t,rfl⟩:=rx
 obtain ⟨t',rfl⟩:=ry
 exact PySem.P.le_str ⟨.bl _,H,I,rfl,q⟩
def sLe : D->D->Option D | .str i,.str j=>some (.bl (!decide (j.cps.toList < i.cps.toList))) | _,_=>none
theorem od_sle : OpD X (compareOp .LtE) sLe:=by
 refine ⟨_,op_le_str,fun G H x y v u d Q sG rx ry e k=>?_⟩
 unfold sLe at e
 split at e
 ·cases e
  have rx:=rx.flat rfl
  have ry:=ry.flat rfl
  simp only [Rep] at rx ry
  exact ⟨_,_,rx,ry,k _ G H (Grow.refl sG) (by simp [Rep])⟩
 ·cases e
def scalV : D->Option V
 | .non=>some .non | .bl b=>some (.bl b) | .int i=>some (.int i) | .str x=>some (.str x) | _=>none
theorem scalV_flat {d : D} {w : V} (e : scalV d = some w) : flatD d = true:=by
 cases d <;> first | rfl | cases e
theorem scalV_rep {K : PySem.W.Frag} {G H : Hp} {d : D} {v w : V} (e : scalV d = some w) (r : RepB K G H d v) : v = w:=by
 have r:=r.flat (scalV_flat e)
 cases d <;> simp only [scalV,Rep] at e r <;> first | cases e | skip
 all_goals exact r
def sEq (n : Bool) : D->D->Option D:=fun x y=>(scalV x).bind fun v=>(scalV y).bind fun u=>if scal v u = true then some (.bl (if n then !decide (v = u) else decide (v = u))) else none
theorem od_seq : OpD X (compareOp .Eq) (sEq false):=by
 refine ⟨_,op_eq,fun G H x y v u d Q sG rx ry e k=>?_⟩
 unfold sEq at e
 obtain ⟨v',e1,e⟩:=obE e
 obtain ⟨u',e2,e⟩:=obE e
 obtain rfl:=scalV_rep e1 rx
 obtain rfl:=scalV_rep e2 ry
 split at e
 ·rename_i hs
  cases e
  exact ⟨hs,k _ G H (Grow.refl sG) (by simp [Rep])⟩
 ·cases e
theorem od_sne : OpD X (compareOp .NotEq) (sEq true):=by
 refine ⟨_,op_ne,fun G H x y v u d Q sG rx ry e k=>?_⟩
 unfold sEq at e
 obtain ⟨v',e1,e⟩:=obE e
 obtain ⟨u',e2,e⟩:=obE e
 obtain rfl:=scalV_rep e1 rx
 obtain rfl:=scalV_rep e2 ry
 split at e
 ·rename_i hs
  cases e
  exact ⟨hs,k _ G H (Grow.refl sG) (by simp [Rep])⟩
 ·cases e
def toV : D->V | .non=>.non | .bl b=>.bl b | .int i=>.int i | .str x=>.str x | _=>.non
theorem rep_flat {K : PySem.W.Frag} {G : Hp} {d : D} {v : V} (e : flatD d = true) (r : Rep K G d v) : v = toV d /\ flatV v = true:=by
 cases d with
 | non=>simp only [Rep] at r; subst r; exact ⟨rfl,rfl⟩
 | bl b=>simp only [Rep] at r; subst r; exact ⟨rfl,rfl⟩
 | int b=>simp only [Rep] at r; subst r; exact ⟨rfl,rfl⟩
 | str b=>simp only [Rep] at r; subst r; exact ⟨rfl,rfl⟩
 | tup b=>cases e
 | lst b=>cases e
 | dic ks b=>cases e
 | obj _ _ _=>cases e
theorem repL_flat {K : PySem.W.Frag} {G : Hp} : ∀ {ds : List D} {vs : List V},ds.all flatD = true->RepL K G ds vs->vs = ds.map toV /\ vs.all flatV = true
 | [],_,_,r=>by simp only [RepL] at r; subst r; exact ⟨rfl,rfl⟩
 | d::ds,_,e,r=>by
  simp only [RepL] at r
  obtain ⟨v,us,rfl,r1,r2⟩:=r
  rw [List.all_cons,Bool.and_eq_true] at e
  obtain ⟨h1,h2⟩:=rep_flat e.1 r1
  obtain ⟨h3,h4⟩:=repL_flat e.2 r2
  exact ⟨by rw [h1,h3]; rfl,by rw [List.all_cons,h2,h4]; rfl⟩
def inSeq (x : D) (ds : List D) : Option Bool:=if flatD x = true /\ ds.all flatD = true then some (inV (toV x) (ds.map toV)) else none
def inD (n : Bool) : D->D->Option D
 | x,.tup ds=>(inSeq x ds).map fun b=>.bl (if n then !b else b)
 | x,.lst ds=>(inSeq x ds).map fun b=>.bl (if n then !b else b)
 | .str i,.str j=>some (.bl (if n then !(!(Builtin.Str.occurrences j i 0 j.length 1).isEmpty) else !(Builtin.Str.occurrences j i 0 j.length 1).isEmpty))
 | _,_=>none
theorem od_in : OpD X (compareOp .In) (inD false):=by
 refine ⟨_,(op_in_seq.or op_in_str),fun G H x y v u d Q sG rx ry e k=>?_⟩
 unfold inD at e
 split at e
 ·obtain ⟨b,e1,rfl⟩:=omE e
  unfold inSeq at e1
  split at e1
  ·rename_i hc
   cases e1
   have ry:=ry.tup
   simp only [Rep] at ry
   obtain ⟨p,vs,rfl,q,r⟩:=ry
   obtain ⟨h1,h2⟩:=rep_flat hc.1 (rx.flat hc.1)
   obtain ⟨h3,h4⟩:=repL_flat hc.2 r
   subst h1 h3
   exact .inl ⟨p,_,rfl,.inr (sG.sqT q),h2,h4,k _ G H (Grow.refl sG) (by simp [Rep])⟩
  ·cases e1
 ·obtain ⟨b,e1,rfl⟩:=omE e
  unfold inSeq at e1
  split at e1
  ·rename_i hc
   cases e1
   obtain ⟨p,vs,rfl,q,r⟩:=ry.lst sG
   obtain ⟨h1,h2⟩:=rep_flat hc.1 (rx.flat hc.1)
   obtain ⟨h3,h4⟩:=repL_flat hc.2 r
   subst h1 h3
   exact .inl ⟨p,_,rfl,.inl q,h2,h4,k _ G H (Grow.refl sG) (by simp [Rep])⟩
  ·cases e1
 ·cases e
  have rx:=rx.flat rfl
  have ry:=ry.flat rfl
  simp only [Rep] at rx ry
  exact .inr ⟨_,_,rx,ry,k _ G H (Grow.refl sG) (by simp [Rep])⟩
 ·cases e
theorem od_notin : OpD X (compareOp .NotIn) (inD true):=by
 refine ⟨_,(op_notIn_seq.or op_notIn_str),fun G H x y v u d Q sG rx ry e k=>?_⟩
 unfold inD at e
 split at e
 ·obtain ⟨b,e1,rfl⟩:=omE e
  unfold inSeq at e1
  split at e1
  ·rename_i hc
   cases e1
   have ry:=ry.tup
   simp only [Rep] at ry
   obtain ⟨p,vs,rfl,q,r⟩:=ry
   obtain ⟨h1,h2⟩:=rep_flat hc.1 (rx.flat hc.1)
   obtain ⟨h3,h4⟩:=repL_flat hc.2 r
   subst h1 h3
   exact .inl ⟨p,_,rfl,.inr (sG.sqT q),h2,h4,k _ G H (Grow.refl sG) (by simp [Rep])⟩
  ·cases e1
 ·obtain ⟨b,e1,rfl⟩:=omE e
  unfold inSeq at e1
  split at e1
  ·rename_i hc
   cases e1
   obtain ⟨p,vs,rfl,q,r⟩:=ry.lst sG
   obtain ⟨h1,h2⟩:=rep_flat hc.1 (rx.flat hc.1)
   obtain ⟨h3,h4⟩:=repL_flat hc.2 r
   subst h1 h3
   exact .inl ⟨p,_,rfl,.inl q,h2,h4,k _ G H (Grow.refl sG) (by simp [Rep])⟩
  ·cases e1
 ·cases e
  have rx:=rx.flat rfl
  have ry:=ry.flat rfl
  simp only [Rep] at rx ry
  exact .inr ⟨_,_,rx,ry,k _ G H (Grow.refl sG) (by simp [Rep])⟩
 ·cases e
def cutD (xs : List D) (lo hi : Option Int) : List D:=(xs.drop (HT.sIx xs.length 0 lo)).take (HT.sIx xs.length xs.length hi - HT.sIx xs.length 0 lo)
theorem RepL.cut {K : PySem.W.Frag} {G : Hp} {ds : List D} {vs : List V} (r : RepL K G ds vs) (lo hi : Option Int) : RepL K G (cutD ds lo hi) (cutV vs lo hi):=by
 unfold cutD cutV
 rw [r.length]
 exact (r.drop _).take _
def POD (X : Cx) (e : Option Expr) (f : En->Option (Option Int)) : Prop:=∃ t,PO X e t /\ ∀ (B G H : Hp) (δ : En) (σ : St) (o : Option Int) (Q : Option Int->Hp->Prop),Same G H->RepS X.K B G H δ σ->f δ = some o->
 (∀ G' H',Grow G H G' H'->Q o H')->t σ H Q
theorem pod_none : POD X none (fun _=>some none):=⟨_,po_none,fun B G H δ σ o Q sG rs e k=>by cases e; exact k G H (Grow.refl sG)⟩
@[simp] def oInt (f : FE) : En->Option (Option Int):=fun δ=>match f δ with | some (.int i)=>some (some i) | _=>none
theorem pod_some {e : Expr} {f : FE} (h : PD X e f) : POD X (some e) (oInt f):=by
 obtain ⟨t,pt,k1⟩:=h
 refine ⟨_,po_some pt,fun B G H δ σ o Q sG rs e k=>?_⟩
 unfold oInt at e
 split at e
 ·rename_i i e1
  cases e
  exact k1 B G H δ σ _ _ sG rs e1 fun v G' H' g1 r1=>⟨i,by simpa only [Rep] using r1,k G' H' g1⟩
 ·cases e
def slD (x : D) (lo hi : Option Int) : Option Rs:=match x with
 | .lst ds=>some (.fr (.lst (cutD ds lo hi)))
 | .tup ds=>if HT.sIx ds.length 0 lo = 0 /\ HT.sIx ds.length ds.length hi = ds.length then none else some (.sh (.tup (cutD ds lo hi)))
 | _=>none
def lenD : List D->Option D
 | [.lst ds]=>some (.int ds.length)
 | [.tup ds]=>some (.int ds.length)
 | [.str z]=>if z.length <= sizeLine then some (.int z.length) else none
 | [.dic ks ds]=>some (.int ds.length)
 | _=>none
theorem repLB_one {K : PySem.W.Frag} {G H : Hp} {d : D} {vs : List V} (r : RepLB K G H [d] vs) : ∃ v,vs = [v] /\ RepB K G H d v:=by
 obtain ⟨v,us,rfl,r1,r2⟩:=r
 simp only [RepLB] at r2
 subst r2
 exact ⟨v,rfl,r1⟩
theorem cd_len : CallD X (.builtin "len") lenD:=by
 refine ⟨_,(call_len_seq.or call_len_str).or (show CallR X (.builtin "len") (fun xs H Q=>∃ a kvs,xs = [V.ref a] /\ Rd H a (.dK kvs) /\ Q (.int kvs.length) H) from ?_),fun G H ds vs d Q sG r e k=>?_⟩
 ·intro pins s σ H xs us Q I r h
  obtain ⟨a,kvs,rfl,ha,q⟩:=h
  obtain ⟨u,rfl,ru⟩:=vals1 r
  cases ru
  exact d_len I ha fun t s' I'=>⟨.int kvs.length,H,I',⟨t,rfl⟩,q⟩
 unfold lenD at e
 split at e
 ·cases e
  obtain ⟨v,rfl,r1⟩:=repLB_one r
  obtain ⟨a,us,rfl,q,rl⟩:=r1.lst sG
  exact .inl (.inl ⟨a,us,rfl,.inl q,k _ G H (Grow.refl sG) (by simp [Rep,rl.length])⟩)
 ·cases e
  obtain ⟨v,rfl,r1⟩:=repLB_one r
  have r1:=r1.tup
  simp only [Rep] at r1
  obtain ⟨a,us,rfl,q,rl⟩:=r1
  exact .inl (.inl ⟨a,us,rfl,.inr (sG.sqT q),k _ G H (Grow.refl sG) (by simp [Rep,rl.length])⟩)
 ·split at e
  ·rename_i hl
   cases e
   obtain ⟨v,rfl,r1⟩:=repLB_one r
   have r1:=r1.flat rfl
   simp only [Rep] at r1
   subst r1
   exact .inl (.inr ⟨_,rfl,hl,k _ G H (Grow.refl sG) (by simp [Rep])⟩)
  ·cases e
 ·cases e
  obtain ⟨v,rfl,r1⟩:=repLB_one r
  obtain ⟨a,us,rfl,q,hl,nd,rl⟩:=r1.dic sG
  refine .inr ⟨a,_,rfl,q,k _ G H (Grow.refl sG) ?_⟩
  have e2 : us.length = _:=rl.length.symm
  simp only [Rep,List.length_zip]
  congr 1
  omega
 ·cases e
def tupD : List D->Option D
 | [.lst ds]=>some (.tup ds)
 | [.tup ds]=>some (.tup ds)
 | _=>none
theorem cd_tuple : CallD X (.type "tuple") tupD:=by
 refine ⟨_,call_tuple_of,fun G H ds vs d Q sG r e k=>?_⟩
 unfold tupD at e
 split at e
 ·cases e
  obtain ⟨v,rfl,r1⟩:=repLB_one r
  obtain ⟨a,us,rfl,q,rl⟩:=r1.lst sG
  exact ⟨a,us,rfl,.inl ⟨q,fun l hl=>k _ _ _ (Grow.laid sG _ hl) (rep_tup (sG.free hl) rl)⟩⟩
 ·cases e
  obtain ⟨v,rfl,r1⟩:=repLB_one r
  have r1:=r1.tup
  have r2:=r1
  simp only [Rep] at r1
  obtain ⟨a,us,rfl,q,rl⟩:=r1
  exact ⟨a,us,rfl,.inr ⟨sG.sqT q,k _ G H (Grow.refl sG) r2⟩⟩
 ·cases e
end
inductive Out where
 | nx (δ : En) | rt (r : Rs) (δ : En) | bk (δ : En) | ct (δ : En) | ex (c : Ex) (δ : En)
abbrev FS:=En->Option Out
structure Stp (B G G' H' : Hp) : Prop where
 g : Same G G'
 s : Same G' H'
 b : Same B H'
 n : ∀ a o,B a = some o->G a = none->G' a = none
theorem Stp.refl {B G H : Hp} (s : Same G H) (b : Same B H) : Stp B G G H:=⟨Same.refl _,s,b,fun _ _ _ n=>n⟩
theorem Stp.trans {B G G1 H1 G2 H2 : Hp} (a : Stp B G G1 H1) (c : Stp B G1 G2 H2) : Stp B G G2 H2:=⟨a.g.trans c.g,c.s,c.b,fun x o e n=>c.n x o e (a.n x o e n)⟩
theorem Grow.stp {B G H G' H' : Hp} (g : Grow G H G' H') (b : Same B H) : Stp B G G' H':=⟨g.g,g.s,b.trans g.h,fun a o e n=>g.n a o (b a o e) n⟩
def Want (X : Cx) (B G : Hp) (D : Ends) : Out->Prop
 | .nx δ'=>∀ σ' G' H',Stp B G G' H'->RepS X.K B G' H' δ' σ'->D.nx σ' H'
 | .bk δ'=>∀ σ' G' H',Stp B G G' H'->RepS X.K B G' H' δ' σ'->D.bk σ' H'
 | .ct δ'=>∀ σ' G' H',Stp B G G' H'->RepS X.K B G' H' δ' σ'->D.ct σ' H'
 | .ex c δ'=>∀ pins σ' G' H' s' e C od,Inv X pins σ' H' s'->Stp B G G' H'->RepS X.K B G' H' δ' σ'->PySem.W.nsIn X.K mainGlobals c.n = some (some (.ref C))->Pay X.K G' c od->Fly X H' s'.heap e C od->X.xe (.ref e) s'
 | .rt (.sh d) δ'=>∀ v σ' G' H',Stp B G G' H'->RepS X.K B G' H' δ' σ'->Rep X.K G' d v->D.rt v H'
 | .rt (.fr m) δ'=>∀ p vs σ' G' H',Stp B G G' H'->RepS X.K B G' H' δ' σ'->H' p = none->m.ok->RepL X.K G' m.vals vs->D.rt (.ref p) (upd H' p (m.ho vs))
def GivesS (X : Cx) (t : TS) (F : FS) : Prop:=∀ (B G H : Hp) (δ : En) (σ : St) (o : Out) (D : Ends),Same G H->Same B H->RepS X.K B G H δ σ->F δ = some o->Want X B G D o->t D σ H
def PSD (X : Cx) (st : Stmt) (F : FS) : Prop:=∃ t,PS X st t /\ GivesS X t F
def PSsD (X : Cx) (sts : List Stmt) (F : FS) : Prop:=∃ t,PSs X sts t /\ GivesS X t F
theorem Want.mono {X : Cx} {B G G1 H1 : Hp} {D : Ends} {o : Out} (w : Want X B G D o) (g : Stp B G G1 H1) : Want X B G1 D o:=by
 cases o with
 | nx δ=>exact fun σ' G' H' a=>w σ' G' H' (g.trans a)
 | bk δ=>exact fun σ' G' H' a=>w σ' G' H' (g.trans a)
 | ct δ=>exact fun σ' G' H' a=>w σ' G' H' (g.trans a)
 | ex c δ=>exact fun pins σ' G' H' s' e C od I a=>w pins σ' G' H' s' e C od I (g.trans a)
 | rt r δ=>
  cases r with
  | sh d=>exact fun v σ' G' H' a=>w v σ' G' H' (g.trans a)
  | fr m=>exact fun p vs σ' G' H' a=>w p vs σ' G' H' (g.trans a)
section
variable {X : Cx} {st : Stmt} {rest sts : List Stmt} {F F' : FS} {pos : Pos} {f : FE} {e : Expr}
@[simp] def sNil : FS:=fun δ=>some (.nx δ)
@[simp] def sSeq (F F' : FS) : FS:=fun δ=>match F δ with | some (.nx δ')=>F' δ' | o=>o
theorem psd_nil : PSsD X [] sNil:=⟨_,pss_nil,fun B G H δ σ o D sG sB rs e w=>by cases e; exact w σ G H (Stp.refl sG sB) rs⟩
theorem psd_cons (h1 : PSD X st F) (h2 : PSsD X rest F') : PSsD X (st::rest) (sSeq F F'):=by
 obtain ⟨t,p1,k1⟩:=h1
 obtain ⟨u,p2,k2⟩:=h2
 refine ⟨_,pss_cons p1 p2,fun B G H δ σ o D sG sB rs e w=>?_⟩
 unfold sSeq at e
 show t { D with nx:=u D } σ H
 cases e1 : F δ with
 | none=>rw [e1] at e; cases e
 | some o1=>
  rw [e1] at e
  cases o1 with
  | nx δ'=>exact k1 B G H δ σ (.nx δ') _ sG sB rs e1 fun σ' G' H' a r=>k2 B G' H' δ' σ' o D a.s a.b r e (w.mono a)
  | rt d δ'=>
   cases e
   cases d with
   | sh d=>exact k1 B G H δ σ (.rt (.sh d) δ') _ sG sB rs e1 w
   | fr m=>exact k1 B G H δ σ (.rt (.fr m) δ') _ sG sB rs e1 w
  | bk δ'=>cases e; exact k1 B G H δ σ (.bk δ') _ sG sB rs e1 w
  | ct δ'=>cases e; exact k1 B G H δ σ (.ct δ') _ sG sB rs e1 w
  | ex c δ'=>cases e; exact k1 B G H δ σ (.ex c δ') _ sG sB rs e1 w
@[simp] def sSet (i : Nat) (f : FE) : FS:=fun δ=>(f δ).map fun d=>.nx (δ.set i (some (.sh d)))
theorem psd_set (i : Nat) {x : Str} {pos' : Pos} (hN : X.N.Nodup) (he : PD X e f) (hi : X.N[i]? = some x:=by rfl) (hx : Loc X.env.scope x:=by first | exact Or.inl rfl | exact Or.inr rfl)
  (hs : swapsWith e (some (.Name x pos')) pos.line X.env = pure false:=by rfl) (hf : X.fn x = true \/ X.env.scope.names.lookup x = some .local:=by first | exact .inl rfl | exact .inr rfl) : PSD X (.Assign [.Name x pos'] e pos) (sSet i f):=by
 obtain ⟨t,pt,k⟩:=he
 refine ⟨_,ps_set hN hi hx pt hs hf,fun B G H δ σ o D sG sB rs e w=>?_⟩
 unfold sSet at e
 obtain ⟨d,e1,rfl⟩:=omE e
 exact k B G H δ σ d _ sG rs e1 fun v G' H' g r=>w _ G' H' (g.stp sB) ((rs.grow g).set i r)
@[simp] def sRet (f : FR) : FS:=fun δ=>(f δ).map fun r=>.rt r δ
theorem psd_ret {f : FR} (he : PR X e f) : PSD X (.Return (some e) pos) (sRet f):=by
 obtain ⟨t,pt,k⟩:=he
 refine ⟨_,ps_ret pt,fun B G H δ σ o D sG sB rs e w=>?_⟩
 unfold sRet at e
 obtain ⟨d,e1,rfl⟩:=omE e
 refine k B G H δ σ d _ sG rs e1 ?_
 cases d with
 | sh d=>exact fun v G' H' g r=>w v σ G' H' (g.stp sB) (rs.grow g) r
 | fr m=>exact fun p vs G' H' g=>w p vs σ G' H' (g.stp sB) (rs.grow g)
theorem erase_upd {H : Hp} {a : Addr} {o : HO} (h : H a = some o) : upd (fun b=>if b = a then none else H b) a o = H:=by
 funext b
 by_cases hb : b = a
 ·subst hb; rw [upd_same,h]
 ·rw [upd_ne hb,if_neg hb]
theorem same_erase {G H : Hp} {a : Addr} (s : Same G H) (n : G a = none) : Same G (fun b=>if b = a then none else H b):=fun b o e=>by
 have hb : b ≠ a:=fun z=>by rw [z,n] at e; cases e
 show (if b = a then none else H b) = some o
 rw [if_neg hb]
 exact s b o e
@[simp] def sRetV (i : Nat) : FS:=fun δ=>match δ[i]? with | some (some (.pv m _))=>some (.rt (.fr m) (δ.set i none)) | some (some (.sh d))=>some (.rt (.sh d) δ) | _=>none
theorem RepS.erase {K : PySem.W.Frag} {B G H : Hp} {δ : En} {σ : St} (r : RepS K B G H δ σ) {i : Nat} {m : Mo} {o : Option Addr} {a : Addr} (em : δ[i]? = some (some (.pv m o))) (ea : σ[i]? = some (some (.ref a))) :
  RepS K B G (fun b=>if b = a then none else H b) (δ.set i none) σ:=by
 refine ⟨by simp [r.len],fun j x e=>?_,fun j l x y o o' hjl e1 e2=>?_⟩
 ·rcases get_set e with ⟨rfl,e'⟩ | ⟨hj,e'⟩
  ·cases e'
  ·obtain ⟨v,h1,h2⟩:=r.at_ j x e'
   refine ⟨v,h1,?_⟩
   cases x with
   | sh d=>exact h2
   | ob c=>exact h2
   | tk P w ts=>
    obtain ⟨_,z1,a1,us1,rfl,_,_,z3,_⟩:=r.at_ i _ em
    rw [ea] at z1
    cases z1
    refine IsTk.mono h2 (Same.refl _) fun b φ _ e _ n=>⟨?_,n⟩
    have hne : b ≠ a:=fun z=>by subst z; rw [z3] at e; cases m <;> cases e
    show (if b = a then none else H b) = _
    rw [if_neg hne]; exact e
   | pv m2 o2=>
    obtain ⟨a2,us2,rfl,q1,q2,q3,q4,q5⟩:=h2
    have hne : a2 ≠ a:=fun z=>by
     subst z
     exact r.ap i j m m2 _ _ hj em e' (ea.trans h1.symm)
    exact ⟨a2,us2,rfl,q1,q2,by show (if a2 = a then none else H a2) = _; rw [if_neg hne]; exact q3,q4,q5⟩
 ·rcases get_set e1 with ⟨rfl,e'⟩ | ⟨_,f1⟩
  ·cases e'
  ·rcases get_set e2 with ⟨rfl,e'⟩ | ⟨_,f2⟩
   ·cases e'
   ·exact r.ap j l x y o o' hjl f1 f2
theorem psd_retV (i : Nat) {x : Str} {p : Pos} (hN : X.N[i]? = some x:=by rfl) (hv : Vis X.env.scope x:=by first | exact Or.inl rfl | exact Or.inr (Or.inl rfl) | exact Or.inr (Or.inr rfl)) (hd : (x == ("__debug__" : Str)) = false:=by decide)
  (hcd : (x == ("__classdict__" : Str)) = false:=by decide) : PSD X (.Return (some (.Name x p)) pos) (sRetV i):=by
 refine ⟨_,ps_ret (pe_var hN hv hd hcd),fun B G H δ σ o D sG sB rs e w=>?_⟩
 unfold sRetV at e
 split at e
 ·rename_i m _ em
  cases e
  obtain ⟨v,h1,a,vs,rfl,h2,h3,h4,h5,h6,_⟩:=rs.at_ i _ em
  refine ⟨_,h1,?_⟩
  have q:=w a vs σ G (fun b=>if b = a then none else H b) ⟨Same.refl _,same_erase sG h3,same_erase sB h2,fun _ _ _ n=>n⟩ (rs.erase em h1) (by simp) h5 h6
  rw [erase_upd h4] at q
  exact q
 ·rename_i d ed
  cases e
  obtain ⟨v,h1,h2⟩:=rs.at_ i _ ed
  exact ⟨v,h1,w v σ G H (Stp.refl sG sB) rs h2⟩
 ·cases e
@[simp] def sSetR (i : Nat) (f : FR) : FS:=fun δ=>(f δ).map fun r=>.nx (δ.set i (some r.sl))
theorem psd_setR (i : Nat) {x : Str} {pos' : Pos} {f : FR} (hN : X.N.Nodup) (he : PR X e f) (hi : X.N[i]? = some x:=by rfl) (hx : Loc X.env.scope x:=by first | exact Or.inl rfl | exact Or.inr rfl)
  (hs : swapsWith e (some (.Name x pos')) pos.line X.env = pure false:=by rfl) (hf : X.fn x = true \/ X.env.scope.names.lookup x = some .local:=by first | exact .inl rfl | exact .inr rfl) : PSD X (.Assign [.Name x pos'] e pos) (sSetR i f):=by
 obtain ⟨t,pt,k⟩:=he
 refine ⟨_,ps_set hN hi hx pt hs hf,fun B G H δ σ o D sG sB rs e w=>?_⟩
 unfold sSetR at e
 obtain ⟨d,e1,rfl⟩:=omE e
 refine k B G H δ σ d _ sG rs e1 ?_
 cases d with
 | sh d=>exact fun v G' H' g r=>w _ G' H' (g.stp sB) ((rs.grow g).set i r)
 | fr m=>
  intro p vs G' H' g hp ok rl
  have g2 : Grow G' H' G' (upd H' p (m.ho vs)):=⟨Same.refl _,same_new _ hp,g.s.trans (same_new _ hp),fun _ _ _ n=>n⟩
  have g3:=g.trans g2
  refine w _ G' _ (g3.stp sB) ((rs.grow g3).put i (x:=.pv m none) ⟨p,vs,rfl,(sB.trans g.h).free hp,g.s.free hp,upd_same,ok,rl,fun _ z=>nomatch z⟩ fun m' _ _ j y _ hj ej q=>?_)
  obtain ⟨v,h1,a,us,rfl,_,_,h4,_,_,_⟩:=(rs.grow g).at_ j _ ej
  rw [h1] at q
  cases q
  rw [hp] at h4
  cases h4
theorem RepS.upd {K : PySem.W.Frag} {B G H : Hp} {δ : En} {σ : St} (r : RepS K B G H δ σ) {i : Nat} {m m' : Mo} {o : Option Addr} {a : Addr} {us : List V} (em : δ[i]? = some (some (.pv m o))) (ea : σ[i]? = some (some (.ref a))) (hB : B a = none) (hG : G a = none) (ok : m'.ok) (rl : RepL K G m'.vals us) :
  RepS K B G (L2.upd H a (m'.ho us)) (δ.set i (some (.pv m' o))) σ:=by
 refine ⟨by simp [r.len],fun j x e=>?_,fun j l x y o1 o2 hjl e1 e2=>?_⟩
 ·rcases get_set e with ⟨rfl,e'⟩ | ⟨hj,e'⟩
  ·cases e'
   obtain ⟨v,w1,b,_,rfl,_,_,_,_,_,tg⟩:=r.at_ _ _ em
   rw [ea] at w1
   cases w1
   exact ⟨_,ea,a,us,rfl,hB,hG,upd_same,ok,rl,tg⟩
  ·obtain ⟨v,h1,h2⟩:=r.at_ j x e'
   refine ⟨v,h1,?_⟩
   cases x with
   | sh d=>exact h2
   | ob c=>exact h2
   | tk P w ts=>
    obtain ⟨_,z1,a1,us1,rfl,_,_,z3,_⟩:=r.at_ i _ em
    rw [ea] at z1
    cases z1
    refine IsTk.mono h2 (Same.refl _) fun b φ _ e _ n=>⟨?_,n⟩
    have hne : b ≠ a:=fun z=>by subst z; rw [z3] at e; cases m <;> cases e
    rw [upd_ne hne]; exact e
   | pv m2 o2=>
    obtain ⟨a2,us2,rfl,q1,q2,q3,q4,q5⟩:=h2
    have hne : a2 ≠ a:=fun z=>by
     subst z
     exact r.ap i j m m2 _ _ hj em e' (ea.trans h1.symm)
    exact ⟨a2,us2,rfl,q1,q2,by rw [upd_ne hne]; exact q3,q4,q5⟩
 ·have old : ∀ (k : Nat) (z : Mo) (u : Option Addr),(δ.set i (some (.pv m' o)))[k]? = some (some (.pv z u))->∃ z' u',δ[k]? = some (some (.pv z' u')):=fun k z u e=>by
   rcases get_set e with ⟨rfl,e'⟩ | ⟨_,e'⟩
   ·exact ⟨m,o,em⟩
   ·exact ⟨z,u,e'⟩
  obtain ⟨x',u1,f1⟩:=old j x _ e1
  obtain ⟨y',u2,f2⟩:=old l y _ e2
  exact r.ap j l x' y' _ _ hjl f1 f2
theorem stp_own {B G H : Hp} {a : Addr} {o : HO} (sG : Same G H) (sB : Same B H) (hB : B a = none) (hG : G a = none) : Stp B G G (L2.upd H a o):=
 ⟨Same.refl _,fun b u e=>by rw [upd_ne (ne_of_none e hG)]; exact sG b u e,fun b u e=>by rw [upd_ne (ne_of_none e hB)]; exact sB b u e,fun _ _ _ n=>n⟩
@[simp] def sApp (i : Nat) (f : FE) : FS:=fun δ=>match δ[i]? with
 | some (some (.pv (.lst ds) o))=>(f δ).bind fun d=>if ds.length < sizeLine then some (.nx (δ.set i (some (.pv (.lst (ds++[d])) o)))) else none
 | _=>none
theorem psd_app (i : Nat) {x : Str} {p p1 p2 : Pos} (he : PD X e f) (hN : X.N[i]? = some x:=by rfl) (hv : Vis X.env.scope x:=by first | exact Or.inl rfl | exact Or.inr (Or.inl rfl) | exact Or.inr (Or.inr rfl))
  (hb : ∀ {t : TE} {tx : TE},PE X (.Name x p) tx->PE X e t->PE X (.Call (.Attribute (.Name x p) "append" p1) [e] [] p2) (tBM X.K "list" rAppend tx (tCons t tNil)):=by
   intro t tx hx ht; exact pe_bm PySem.F.plainAttrs_list PySem.F.slot_list_append PySem.F.type_list_append mt_append hx (pa_cons ht pa_nil))
  (hd : (x == ("__debug__" : Str)) = false:=by decide) (hcd : (x == ("__classdict__" : Str)) = false:=by decide) (hs : swapsWith (.Call (.Attribute (.Name x p) "append" p1) [e] [] p2) none pos.line X.env = pure false:=by rfl) :
  PSD X (.Expr (.Call (.Attribute (.Name x p) "append" p1) [e] [] p2) pos) (sApp i f):=by
 obtain ⟨t,pt,k⟩:=he
 refine ⟨_,ps_expr (hb (pe_var hN hv hd hcd) pt) hs,fun B G H δ σ o D sG sB rs e w=>?_⟩
 unfold sApp at e
 split at e
 ·rename_i ds o em
  obtain ⟨d,e1,e⟩:=obE e
  split at e
  ·rename_i hl
   cases e
   obtain ⟨v,h1,a,vs,rfl,h2,h3,h4,h5,h6,_⟩:=rs.at_ i _ em
   refine ⟨_,h1,.inl ⟨rfl,_,SqL.of h4⟩,k B G H δ σ d _ sG rs e1 fun u G1 H1 g1 r1=>?_⟩
   have hH : H1 a = some (.lst vs):=g1.h _ _ h4
   have hG1 : G1 a = none:=g1.n a _ h4 h3
   have rl : RepL X.K G1 (ds++[d]) (vs++[u]):=(h6.mono g1.g).snoc r1
   refine ⟨a,vs,u,rfl,rfl,hH,by rw [<- RepL.length h6]; exact hl,?_⟩
   exact w σ G1 _ ((g1.stp sB).trans (stp_own g1.s (sB.trans g1.h) h2 hG1)) ((rs.grow g1).upd (m':=.lst (ds++[d])) (us:=vs++[u]) em h1 h2 hG1 True.intro rl)
  ·cases e
 ·cases e
@[simp] def sIf (c : En->Option Bool) (F F' : FS) : FS:=fun δ=>(c δ).bind fun b=>if b = true then F δ else F' δ
theorem psd_if {c : Expr} {a b : List Stmt} {fb : En->Option Bool} (hc : PDT X c fb) (ha : PSsD X a F) (hb : PSsD X b F') : PSD X (.If c a b pos) (sIf fb F F'):=by
 obtain ⟨tc,pc,kc⟩:=hc
 obtain ⟨ta,pa,ka⟩:=ha
 obtain ⟨tb,pb,kb⟩:=hb
 refine ⟨_,ps_if pc pa pb,fun B G H δ σ o D sG sB rs e w=>?_⟩
 unfold sIf at e
 obtain ⟨x,e1,e⟩:=obE e
 refine kc B G H δ σ x _ sG rs e1 fun G1 H1 g1=>?_
 cases x with
 | true=>rw [if_pos rfl] at e ⊢; exact ka B G1 H1 δ σ o D g1.s (sB.trans g1.h) (rs.grow g1) e (w.mono (g1.stp sB))
 | false=>rw [if_neg Bool.false_ne_true] at e ⊢; exact kb B G1 H1 δ σ o D g1.s (sB.trans g1.h) (rs.grow g1) e (w.mono (g1.stp sB))
structure Wk (K : PySem.W.Frag) (J : It) (G : Hp) (xs : List D) : Prop where
 go : ∀ i d G' H',xs[i]? = some d->Same G G'->Same G' H'->J.go i H' /\ ∀ x H2,J.yld i H' x H2->H2 = H' /\ Rep K G' d x
 stop : ∀ G' H',Same G G'->Same G' H'->J.stop xs.length H'
def PID (X : Cx) (tg iter : Expr) (f : En->Option (List D)) : Prop:=∃ wi,PI X tg iter wi /\ ∀ (B G H : Hp) (δ : En) (σ : St) (xs : List D) (R : It->Hp->Prop),Same G H->RepS X.K B G H δ σ->f δ = some xs->
 (∀ J G' H',Grow G H G' H'->Wk X.K J G' xs->R J H')->wi σ H R
def signs (z : Str) : List D:=z.cps.toList.map fun c=>.str ⟨#[c]⟩
def rngD (lo : Int) (n : Nat) : List D:=(List.range n).map fun (k : Nat)=>.int (lo + (k : Int))
@[simp] def oRng (f : FE) : En->Option (List D):=fun δ=>match f δ with | some (.int j)=>if -(2 ^ 62) <= j /\ j < 2 ^ 62 then some (rngD 0 j.toNat) else none | _=>none
variable {tg : Expr}
theorem pid_range {p : Pos} (hm : X.mg "range" = none) (he : PD X e f) (hg : Gl X "range":=by rfl) (hs : starEach [e] X.env = [(false,eval e X.env)]:=by rfl) : PID X tg (.Call (.Name "range" p) [e] [] pos) (oRng f):=by
 obtain ⟨t,pt,k⟩:=he
 refine ⟨_,pi_range1 hg hm (pa_cons pt pa_nil hs) hs,fun B G H δ σ xs R sG rs e q=>?_⟩
 unfold oRng at e
 split at e
 ·rename_i j e1
  split at e
  ·rename_i hj
   cases e
   refine k B G H δ σ _ _ sG rs e1 fun v G1 H1 g1 r1=>?_
   simp only [Rep] at r1
   subst r1
   refine ⟨j,rfl,hj.1,hj.2,q _ G1 H1 g1 ⟨fun i d G' H' ed a1 b1=>?_,fun G' H' a1 b1=>?_⟩⟩
   ·unfold rngD at ed
    rw [List.getElem?_map] at ed
    obtain ⟨c,ec,rfl⟩:=omE ed
    obtain ⟨hi,hc⟩:=List.getElem?_eq_some_iff.mp ec
    rw [List.length_range] at hi
    rw [List.getElem_range] at hc
    subst hc
    refine ⟨hi,fun x' H2 y=>⟨y.1,?_⟩⟩
    rw [y.2]
    simp [Rep]
   ·show j.toNat <= (rngD 0 j.toNat).length
    simp [rngD]
  ·cases e
 ·cases e
def forL (i : Nat) (F : FS) : List D->FS
 | [],δ=>some (.nx δ)
 | x::xs,δ=>match F (δ.set i (some (.sh x))) with
  | some (.nx δ')=>forL i F xs δ'
  | some (.ct δ')=>forL i F xs δ'
  | some (.ex c δ')=>some (.ex c δ')
  | some (.bk δ')=>some (.nx δ')
  | some (.rt d δ')=>some (.rt d δ')
  | none=>none
@[simp] def sFor (i : Nat) (f : En->Option (List D)) (F : FS) : FS:=fun δ=>(f δ).bind fun xs=>forL i F xs δ
theorem psd_for (i : Nat) {x : Str} {pos' : Pos} {iter : Expr} {body : List Stmt} {g : En->Option (List D)} (hN : X.N.Nodup) (hc : X.calm = true) (hp : PassesOwn (model X.prog X.w) X.A X.env X.xe) (hi : PID X (.Name x pos') iter g) (hb : PSsD X body F)
  (hix : X.N[i]? = some x:=by rfl) (hx : Loc X.env.scope x:=by first | exact Or.inl rfl | exact Or.inr rfl) (hf : X.fn x = true \/ X.env.scope.names.lookup x = some .local:=by first | exact .inl rfl | exact .inr rfl)
  (hs : ∀ x,foldedSetIterable iter X.env x = pure x:=by intro _; rfl) : PSD X (.For (.Name x pos') iter body [] pos) (sFor i g F):=by
 obtain ⟨wi,pw,kw⟩:=hi
 obtain ⟨tb,pb,kb⟩:=hb
 refine ⟨_,ps_for hp hc pw (pg_name hN hix hx hf) pb hs,fun B G H δ σ o D sG sB rs e w=>?_⟩
 unfold sFor at e
 obtain ⟨xs,e1,e⟩:=obE e
 refine kw B G H δ σ xs _ sG rs e1 fun J G1 H1 g1 wk=>?_
 have st1 : Stp B G G1 H1:=g1.stp sB
 refine ⟨fun n m σ' H'=>∃ δ' G',m = xs.length - n /\ n <= xs.length /\ Stp B G1 G' H' /\ RepS X.K B G' H' δ' σ' /\ forL i F (xs.drop n) δ' = some o,⟨_,δ,G1,rfl,Nat.zero_le _,Stp.refl st1.s st1.b,rs.grow g1,by simpa using e⟩,?_⟩
 rintro n m σ' H' ⟨δ',G',rfl,hn,a1,rs',eo⟩
 by_cases hlt : n < xs.length
 ·right
  obtain ⟨go,yl⟩:=wk.go n xs[n] G' H' (by simp [hlt]) a1.g a1.s
  rw [List.drop_eq_getElem_cons hlt] at eo
  unfold forL at eo
  refine ⟨go,fun σ2 H2=>∃ m',m' < xs.length - n /\ ∃ δ2 G2,m' = xs.length - (n + 1) /\ n + 1 <= xs.length /\ Stp B G1 G2 H2 /\ RepS X.K B G2 H2 δ2 σ2 /\ forL i F (xs.drop (n + 1)) δ2 = some o,fun σ2 H2 z=>z,fun x H2 y=>?_⟩
  obtain ⟨rfl,rx⟩:=yl x H2 y
  show tb _ (σ'.set i (some x)) H2
  have again : ∀ {δ2 : En} {σ2 : St} {G2 H3 : Hp},Stp B G' G2 H3->RepS X.K B G2 H3 δ2 σ2->forL i F (xs.drop (n + 1)) δ2 = some o->
    ∃ m',m' < xs.length - n /\ ∃ δ2 G2,m' = xs.length - (n + 1) /\ n + 1 <= xs.length /\ Stp B G1 G2 H3 /\ RepS X.K B G2 H3 δ2 σ2 /\ forL i F (xs.drop (n + 1)) δ2 = some o:=
   fun {δ2 σ2 G2 H3} a r e=>⟨xs.length - (n + 1),by omega,δ2,G2,rfl,hlt,a1.trans a,r,e⟩
  cases eF : F (δ'.set i (some (.sh xs[n]))) with
  | none=>rw [eF] at eo; cases eo
  | some o1=>
   rw [eF] at eo
   refine kb B G' H2 _ _ o1 _ a1.s a1.b (rs'.set i rx) eF ?_
   cases o1 with
   | nx δ2=>exact fun σ2 G2 H3 a r=>again a r eo
   | ct δ2=>exact fun σ2 G2 H3 a r=>again a r eo
   | ex c δ2=>
    cases eo
    exact fun pins σ2 G2 H3 s3 e C od I a=>w pins σ2 G2 H3 s3 e C od I (st1.trans (a1.trans a))
   | bk δ2=>
    cases eo
    exact fun σ2 G2 H3 a r=>w σ2 G2 H3 (st1.trans (a1.trans a)) r
   | rt r δ2=>
    cases eo
    cases r with
    | sh d=>exact fun v σ2 G2 H3 a r=>w v σ2 G2 H3 (st1.trans (a1.trans a)) r
    | fr m=>exact fun p vs σ2 G2 H3 a=>w p vs σ2 G2 H3 (st1.trans (a1.trans a))
 ·left
  have hnn : n = xs.length:=by omega
  subst hnn
  rw [List.drop_of_length_le (Nat.le_refl _)] at eo
  cases eo
  exact ⟨wk.stop G' H' a1.g a1.s,w σ' G' H' (st1.trans a1) rs'⟩
def compL (c : D->Option Bool) (g : D->Option D) : List D->Option (List D)
 | []=>some []
 | x::xs=>(c x).bind fun b=>if b = true then (g x).bind fun y=>(compL c g xs).bind fun ys=>some (y::ys) else compL c g xs
@[simp] def csD (nl : Nat) (js : List Nat) (δ : En) : En:=List.replicate nl none++js.map fun j=>(δ[j]?).join
@[simp] def fComp (nl : Nat) (js : List Nat) (i : Nat) (it : En->Option (List D)) (c : En->Option Bool) (g : FE) : FR:=fun δ=>(it δ).bind fun xs=>
 if xs.length <= sizeLine then (compL (fun x=>c ((csD nl js δ).set i (some (.sh x)))) (fun x=>g ((csD nl js δ).set i (some (.sh x)))) xs).map fun ys=>.fr (.lst ys) else none
def PIfsD (X : Cx) (ifs : List Expr) (f : En->Option Bool) : Prop:=∃ t,PIfs X ifs t /\ ∀ (B G H : Hp) (δ : En) (σ : St) (b : Bool) (Q : Bool->Hp->Prop),Same G H->RepS X.K B G H δ σ->f δ = some b->
 (∀ G' H',Grow G H G' H'->Q b H')->t σ H Q
@[simp] def bYes : En->Option Bool:=fun _=>some true
theorem pifd_nil : PIfsD X [] bYes:=⟨_,pifs_nil,fun B G H δ σ b Q sG rs e k=>by cases e; exact k G H (Grow.refl sG)⟩
theorem pifd_one {c : Expr} {fb : En->Option Bool} (h : PDT X c fb) : PIfsD X [c] fb:=by
 obtain ⟨t,pt,k⟩:=h
 exact ⟨t,pifs_one pt,k⟩
theorem cs_at {nl : Nat} {js : List Nat} {α : Type} {l : List (Option α)} {i : Nat} {x : α} (e : (List.replicate nl none++js.map fun j=>(l[j]?).join)[i]? = some (some x)) : ∃ j,nl <= i /\ js[i - nl]? = some j /\ l[j]? = some (some x):=by
 rcases Nat.lt_or_ge i nl with z | z
 ·rw [List.getElem?_append_left (by simpa using z),List.getElem?_replicate,if_pos z] at e; cases e
 ·rw [List.getElem?_append_right (by simpa using z),List.length_replicate,List.getElem?_map] at e
  obtain ⟨j,ej,e⟩:=omE e
  refine ⟨j,z,ej,?_⟩
  cases q : l[j]? with
  | none=>rw [q] at e; cases e
  | some y=>rw [q] at e; rw [show y = some x from e]
theorem cs_to {nl : Nat} {js : List Nat} {α : Type} {l : List (Option α)} {i j : Nat} {x : Option α} (z : nl <= i) (ej : js[i - nl]? = some j) (e : l[j]? = some x) : (List.replicate nl none++js.map fun j=>(l[j]?).join)[i]? = some x:=by
 rw [List.getElem?_append_right (by simpa using z),List.length_replicate,List.getElem?_map,ej,Option.map_some,e]
 rfl
theorem RepS.cs {K : PySem.W.Frag} {B G H : Hp} {δ : En} {σ : St} (r : RepS K B G H δ σ) (nl : Nat) (js : List Nat) (hj : js.Nodup) : RepS K B G H (csD nl js δ) (csOf nl js σ):=by
 refine ⟨by simp [csD,csOf],fun i x e=>?_,fun i j x y o1 o2 hij e1 e2=>?_⟩
 ·obtain ⟨j,z,ej,ed⟩:=cs_at e
  obtain ⟨v,h1,h2⟩:=r.at_ j _ ed
  exact ⟨v,cs_to z ej h1,h2⟩
 ·obtain ⟨j1,z1,ej1,ed1⟩:=cs_at e1
  obtain ⟨j2,z2,ej2,ed2⟩:=cs_at e2
  have hne : j1 ≠ j2:=fun q=>by
   subst q
   have h1:=(List.getElem?_eq_some_iff.mp ej1)
   have h2:=(List.getElem?_eq_some_iff.mp ej2)
   obtain ⟨l1,q1⟩:=h1
   obtain ⟨l2,q2⟩:=h2
   have:=(List.getElem_inj hj).mp (q1.trans q2.symm)
   omega
  obtain ⟨v1,h1,_⟩:=r.at_ j1 _ ed1
  obtain ⟨v2,h2,_⟩:=r.at_ j2 _ ed2
  have:=r.ap j1 j2 x y _ _ hne ed1 ed2
  rw [show (csOf nl js σ)[i]? = σ[j1]? from (cs_to z1 ej1 h1).trans h1.symm,show (csOf nl js σ)[j]? = σ[j2]? from (cs_to z2 ej2 h2).trans h2.symm]
  exact this
theorem compL_len {c : D->Option Bool} {g : D->Option D} : ∀ {xs ys : List D},compL c g xs = some ys->ys.length <= xs.length
 | [],ys,e=>by cases e; exact Nat.le_refl _
 | x::xs,ys,e=>by
  unfold compL at e
  obtain ⟨b,e1,e⟩:=obE e
  split at e
  ·obtain ⟨y,e2,e⟩:=obE e
   obtain ⟨zs,e3,e⟩:=obE e
   cases e
   have:=compL_len e3
   simp only [List.length_cons]; omega
  ·have:=compL_len e
   simp only [List.length_cons]; omega
theorem gives_comp {wi : TI} {ti : TT} {te : TE} {it : En->Option (List D)} {c : En->Option Bool} {g : FE} {nl i : Nat} {js : List Nat}
  (kw : ∀ (B G H : Hp) (δ : En) (σ : St) (xs : List D) (R : It->Hp->Prop),Same G H->RepS X.K B G H δ σ->it δ = some xs->(∀ J G' H',Grow G H G' H'->Wk X.K J G' xs->R J H')->wi σ H R)
  (kt : ∀ (B G H : Hp) (δ : En) (σ : St) (b : Bool) (Q : Bool->Hp->Prop),Same G H->RepS X.K B G H δ σ->c δ = some b->(∀ G' H',Grow G H G' H'->Q b H')->ti σ H Q) (ke : Gives X.K te g) (hjs : js.Nodup) :
  GivesR X.K (tComp wi (csOf nl js) (gName i) ti te) (fComp nl js i it c g):=fun B G H δ σ d Q sG rs e k=>by
 unfold fComp at e
 obtain ⟨xs,e1,e⟩:=obE e
 split at e
 ·rename_i hl
  obtain ⟨zs,e2,rfl⟩:=omE e
  refine kw B G H δ σ xs _ sG rs e1 fun J G1 H1 g1 wk=>?_
  refine ⟨fun n m ys H'=>∃ G' ws us,m = xs.length - n /\ n <= xs.length /\ Grow G H G' H' /\ Same G1 G' /\ RepL X.K G' ws ys /\ zs = ws++us /\ compL (fun x=>c ((csD nl js δ).set i (some (.sh x)))) (fun x=>g ((csD nl js δ).set i (some (.sh x)))) (xs.drop n) = some us,
   ⟨_,G1,[],zs,rfl,Nat.zero_le _,g1,Same.refl _,by simp [RepL],rfl,by simpa using e2⟩,?_⟩
  rintro n m ys H' ⟨G',ws,us,rfl,hn,gr,s1,rl,rfl,ec⟩
  have hwl : (ws++us).length <= xs.length:=compL_len e2
  refine ⟨by rw [<- rl.length]; rw [List.length_append] at hwl; omega,?_⟩
  by_cases hlt : n < xs.length
  ·right
   obtain ⟨go,yl⟩:=wk.go n xs[n] G' H' (by simp [hlt]) s1 gr.s
   rw [List.drop_eq_getElem_cons hlt] at ec
   unfold compL at ec
   obtain ⟨b,ec1,ec⟩:=obE ec
   refine ⟨go,fun x H2 y=>?_⟩
   obtain ⟨rfl,rx⟩:=yl x H2 y
   show ti ((csOf nl js σ).set i (some x)) H2 _
   have rs2:=((rs.grow gr).cs nl js hjs).set i rx
   refine kt B G' H2 _ _ b _ gr.s rs2 ec1 fun G3 H3 g3=>?_
   cases b with
   | true=>
    rw [if_pos rfl] at ec ⊢
    obtain ⟨y',ec2,ec⟩:=obE ec
    obtain ⟨us',ec3,ec⟩:=obE ec
    cases ec
    refine ke B G3 H3 _ _ y' _ g3.s (rs2.grow g3) ec2 fun v G4 H4 g4 r4=>?_
    exact ⟨xs.length - (n + 1),by omega,G4,ws++[y'],us',rfl,hlt,(gr.trans g3).trans g4,s1.trans (g3.g.trans g4.g),(rl.mono (g3.g.trans g4.g)).snoc r4,by simp,ec3⟩
   | false=>
    rw [if_neg Bool.false_ne_true] at ec ⊢
    exact ⟨xs.length - (n + 1),by omega,G3,ws,us,rfl,hlt,gr.trans g3,s1.trans g3.g,rl.mono g3.g,rfl,ec⟩
  ·left
   have hnn : n = xs.length:=by omega
   subst hnn
   rw [List.drop_of_length_le (Nat.le_refl _)] at ec
   cases ec
   refine ⟨wk.stop G' H' s1 gr.s,fun p hp=>?_⟩
   rw [List.append_nil] at k
   exact k p ys G' H' gr hp True.intro rl
 ·cases e
theorem pr_comp {N : List Str} {nl i : Nat} {js : List Nat} {scope : Scope} {cl : List (Str × Addr)} {elt iter : Expr} {ifs : List Expr} {x : Str} {px pos : Pos} {it : En->Option (List D)} {c : En->Option Bool} {g : FE}
  (hc : X.calm = true) (ok : CompOk X N nl js scope cl) (hi : PID X (.Name x px) iter it) (hin : i < nl) (hNd : N.Nodup) (hix : N[i]? = some x) (hx : scope.names.lookup x = some .local) (hjs : js.Nodup)
  (ht : ∃ ti,(∀ C s₀ H₀ ex,PIfs (compCx X N scope cl C s₀ H₀ ex) ifs ti) /\ ∀ (B G H : Hp) (δ : En) (σ : St) (b : Bool) (Q : Bool->Hp->Prop),Same G H->RepS X.K B G H δ σ->c δ = some b->(∀ G' H',Grow G H G' H'->Q b H')->ti σ H Q)
  (he : ∃ te,(∀ C s₀ H₀ ex,PE (compCx X N scope cl C s₀ H₀ ex) elt te) /\ Gives X.K te g)
  (hs : ∀ x,foldedSetIterable iter X.env x = pure x:=by intro _; rfl) :
  PR X (.ListComp elt [⟨.Name x px,iter,ifs,0⟩] scope pos) (fComp nl js i it c g):=by
 obtain ⟨wi,pw,kw⟩:=hi
 obtain ⟨ti,pt,kt⟩:=ht
 obtain ⟨te,pe,ke⟩:=he
 refine ⟨_,pe_comp hc ok pw (keeps_name hin) (fun C s₀ H₀ ex=>pg_name hNd hix (.inl (lookup_relabel_local hx)) (.inr (lookup_relabel_local hx))) pt pe hs,gives_comp kw kt ke hjs⟩
end
section
variable {X : Cx}
theorem op_catL : OpR X (binaryOp .Add) (rCatL X.K):=by
 intro pins s σ H x y v u Q I rx ry h
 obtain ⟨l,b,xs,zs,rfl,rfl,hH,hB,hz,q⟩:=h
 cases rx
 cases ry
 obtain ⟨its,r,hl,hz1⟩:=I.list hH
 obtain ⟨its2,r2,hl2,hz2⟩:=I.list hB
 obtain ⟨⟨cls,dd,data,sl⟩,ho,hc,n,hd⟩:=hl.isList
 obtain ⟨⟨cls2,dd2,data2,sl2⟩,ho2,hc2,n2,hd2⟩:=hl2.isList
 simp only at hc hd hc2 hd2
 subst hc hd hc2 hd2
 have ea : its.toArray++its2.toArray = (its++its2).toArray:=by simp
 have h1:=r.length
 have h2:=r2.length
 refine concat_meets ⟨_,ho,rfl⟩ ⟨_,ho2,rfl⟩ noFill_list_add seq_list_add PySem.F.slot_list_add PySem.F.entry_list_add (PySem.F.args_list_add_2 _ _) (list_addW l b its.toArray its2.toArray n n2 dd dd2 sl sl2 (by simp; omega)) ⟨ho,ho2,?_⟩
 rw [ea]
 exact ⟨.ref _,_,I.lnew (t':=s.toks) (r.append r2) (by rw [List.length_append]; omega),rfl,q _ I.fresh⟩
def rCatT0 (K : PySem.W.Frag) : R2:=fun x y H Q=>∃ a b ys,x = .ref a /\ y = .ref b /\ SqT K H a [] /\ SqT K H b ys /\ Q (.ref b) H
theorem op_catT0 : OpR X (binaryOp .Add) (rCatT0 X.K):=by
 intro pins s σ H x y v u Q I rx ry h
 obtain ⟨a,b,ys,rfl,rfl,ha,hb,q⟩:=h
 cases rx
 cases ry
 obtain ⟨its,r1,p1,_⟩:=I.tuple ha
 obtain ⟨its2,r2,p2,_⟩:=I.tuple hb
 cases r1
 obtain ⟨⟨cls,dd,data,sl⟩,ho,hc,n,hd⟩:=id p1
 obtain ⟨⟨cls2,dd2,data2,sl2⟩,ho2,hc2,n2,hd2⟩:=id p2
 simp only at hc hd hc2 hd2
 subst hc hd hc2 hd2
 exact concat_meets ⟨_,ho,rfl⟩ ⟨_,ho2,rfl⟩ noFill_tuple_add seq_tuple_add PySem.F.slot_tuple_add PySem.F.entry_tuple_add (PySem.F.args_tuple_add_2 _ _)
   (tuple_addW0 a b #[] its2.toArray n n2 dd dd2 sl sl2 rfl) ⟨ho,ho2,⟨.ref b,H,I,rfl,q⟩⟩
def tupAdd : D->D->Option D | .tup i,.tup j=>if i.length + j.length <= sizeLine then some (.tup (i++j)) else none | _,_=>none
theorem od_tadd : OpD X (binaryOp .Add) tupAdd:=by
 refine ⟨_,op_catT0.or op_catT,fun G H x y v u d Q sG rx ry e k=>?_⟩
 unfold tupAdd at e
 split at e
 ·rename_i i j
  split at e
  ·rename_i hc
   cases e
   have rx:=rx.tup
   have ry:=ry.tup
   have rx0:=rx
   have ry0:=ry
   simp only [Rep] at rx ry
   obtain ⟨p1,xs,rfl,q1,r1⟩:=rx
   obtain ⟨p2,ys,rfl,q2,r2⟩:=ry
   cases i with
   | nil=>
    have : xs = []:=by simpa only [RepL] using r1
    subst this
    exact .inl ⟨p1,p2,ys,rfl,rfl,sG.sqT q1,sG.sqT q2,k _ G H (Grow.refl sG) (by simpa using ry0)⟩
   | cons i0 is=>
    refine .inr ⟨p1,p2,xs,ys,rfl,rfl,sG.sqT q1,sG.sqT q2,?_,by rw [<- r1.length,<- r2.length]; exact hc,fun hy=>?_,fun hy p hp=>k _ _ _ (Grow.laid sG _ hp) (rep_tup (sG.free hp) (r1.append r2))⟩
    ·intro z
     have:=r1.length
     rw [z] at this
     cases this
    ·have : j = []:=by
      have:=r2.length
      rw [hy] at this
      exact List.length_eq_zero_iff.mp this
     subst this
     exact k _ G H (Grow.refl sG) (by simpa using rx0)
  ·cases e
 ·cases e
def addD (x y : D) : Option D:=(iAdd x y).or ((sAdd x y).or ((tupAdd x y).or (lAdd x y)))
theorem od_add : OpD X (binaryOp .Add) addD:=od_iadd.or (od_sadd.or (od_tadd.or (od_ladd op_catL)))
def isB : D->D->Option D | .bl i,.bl j=>some (.bl (i == j)) | _,_=>none
def eqVs : List V->List V->Bool
 | [],[]=>true
 | x::xs,y::ys=>eqV x y && eqVs xs ys
 | _,_=>false
theorem call_allL (hc : X.calm = true) : CallR X (.builtin "all") (fun xs H Q=>∃ (a : Addr) (bs : List Bool),xs = [.ref a] /\ SqL X.K H a (bs.map V.bl) /\ Q (.bl (bs.all id)) H):=by
 intro pins s σ H xs us Q I r h
 obtain ⟨a,bs,rfl,hq,q⟩:=h
 obtain ⟨u,rfl,rx⟩:=vals1 r
 cases rx
 obtain ⟨its,rv,pl,hz⟩:=I.list hq
 have hne : a ≠ s.heap.objs.size:=by
  obtain ⟨o,n,e,_⟩:=pl
  exact Nat.ne_of_lt (Heap.lt_size e)
 have hlen : bs.length = its.length:=by have:=rv.length; simpa using this
 refine call_all_walk (wpAny_pyIter_list pl.isList ⟨s.heap.objs.size,[s.heap.objs.size,a],[s.heap.objs.size],its.toArray.size,fun i v=>its.toArray[i]? = some v,_,fun i=>bs.getD i false,rfl,
  Walks.list (A:=X.A.in1) (I.ok.hd hc) s.heap.objs.size a hne its.toArray,⟨⟨_,Heap.get?_push_size _ rfl,rfl,rfl⟩,?_⟩,?_,fun h' tk kk=>?_⟩)
 ·obtain ⟨o,ho,c,n,d⟩:=pl.isList
  exact ⟨o,Heap.get?_push_of_some _ ho,c,n,d⟩
 ·intro i v s' Q' E' hv hQ
  have hv' : its[i]? = some v:=by simpa using hv
  have hi : i < bs.length:=by rw [hlen]; exact (List.getElem?_eq_some_iff.mp hv').1
  have eb : (bs.map V.bl)[i]? = some (V.bl bs[i]):=by simp [hi]
  obtain ⟨w',k1,k2⟩:=rv.get eb
  rw [hv'] at k1
  cases k1
  cases (show v = Value.bool bs[i] from k2)
  have : bs.getD i false = bs[i]:=by simp [hi]
  have hQ : Q' (bs.getD i false) s':=hQ
  rw [this] at hQ
  exact wpAny_truthy_bool hQ
 ·refine ⟨.bl _,H,I.kept (t':=tk) (fun b o e=>kk b o (by simpa using Nat.ne_of_lt (Heap.lt_size e)) (Heap.get?_push_of_some _ e)),rfl,?_⟩
  have e : (List.range its.toArray.size).all (fun i=>bs.getD i false) = bs.all id:=by
   rw [List.size_toArray,<- hlen]
   clear q hlen hz pl rv hq
   induction bs with
   | nil=>rfl
   | cons b bs ih=>rw [List.length_cons,List.range_succ_eq_map,List.all_cons,List.all_map,List.all_cons,<- ih]; rfl
  rw [e]
  exact q
def bools : List D->Option (List Bool)
 | []=>some []
 | .bl b::ds=>(bools ds).map (b::·)
 | _=>none
theorem bools_rep {K : PySem.W.Frag} {G : Hp} : ∀ {ds : List D} {bs : List Bool} {vs : List V},bools ds = some bs->RepL K G ds vs->vs = bs.map V.bl
 | [],bs,vs,e,r=>by
  cases e
  simp only [RepL] at r
  exact r
 | .bl b::ds,bs,vs,e,r=>by
  simp only [bools] at e
  obtain ⟨cs,e1,rfl⟩:=omE e
  simp only [RepL,Rep] at r
  obtain ⟨v,us,rfl,rfl,r2⟩:=r
  rw [bools_rep e1 r2]
  rfl
 | .non::ds,bs,vs,e,r=>nomatch e
 | .int _::ds,bs,vs,e,r=>nomatch e
 | .str _::ds,bs,vs,e,r=>nomatch e
 | .tup _::ds,bs,vs,e,r=>nomatch e
 | .lst _::ds,bs,vs,e,r=>nomatch e
 | .dic _ _::ds,bs,vs,e,r=>nomatch e
def allD : List D->Option D
 | [.lst ds]=>(bools ds).map fun bs=>.bl (bs.all id)
 | _=>none
theorem cd_all (hc : X.calm = true) : CallD X (.builtin "all") allD:=by
 refine ⟨_,call_allL hc,fun G H ds vs d Q sG r e k=>?_⟩
 unfold allD at e
 split at e
 ·obtain ⟨bs,e1,rfl⟩:=omE e
  obtain ⟨v,rfl,r1⟩:=repLB_one r
  obtain ⟨a,us,rfl,q,rl⟩:=r1.lst sG
  obtain rfl:=bools_rep e1 rl
  exact ⟨a,bs,rfl,q,k _ G H (Grow.refl sG) (by simp [Rep])⟩
 ·cases e
def tyD : D->String | .non=>"NoneType" | .bl _=>"bool" | .int _=>"int" | .str _=>"str" | .tup _=>"tuple" | .lst _=>"list" | .dic _ _=>"dict" | .obj _ _ _=>""
def isOb : D->Bool | .obj _ _ _=>true | _=>false
theorem isinst_D {pins : List (Addr × Obj)} {σ : St} {G H : Hp} {s : Shared} {A : Around} {E : Value->Shared->Prop} {Q : Value->Shared->Prop} {c : Value} {b : Bool} {d : D} {x : V} {u : Value} (I : Inv X pins σ H s) (sG : Same G H) (r : Rep X.K G d x) (rx : RelV x u) (ho : isOb d = false)
  (e : PySem.W.kitOne X.K (.type (tyD d)) c = some b) (h : ∀ tk,Q (.bool b) { s with toks:=tk }) : wpAny (model X.prog X.w) A (call (.builtin "isinstance") [u,c]) Q E s:=by
 cases d with
 | non=>simp only [Rep] at r; subst r; exact isinst_ok I rx .non e h
 | bl y=>simp only [Rep] at r; subst r; exact isinst_ok I rx (.bl _) e h
 | int i=>simp only [Rep] at r; subst r; exact isinst_ok I rx (.int _) e h
 | str y=>simp only [Rep] at r; subst r; exact isinst_ok I rx (.str _) e h
 | tup ds=>
  simp only [Rep] at r
  obtain ⟨a,vs,rfl,q,rl⟩:=r
  cases (show u = Value.ref a from rx)
  obtain ⟨its,_,⟨o,h1,h2,_⟩,_⟩:=I.tuple (sG.sqT q)
  exact PySem.W.kia_one PySem.W.kitx_tuple I.kIn ⟨o,h1,h2⟩ e (fun z=>nomatch z) h
 | lst ds=>
  simp only [Rep] at r
  obtain ⟨a,vs,rfl,q,rl⟩:=r
  cases (show u = Value.ref a from rx)
  obtain ⟨its,_,p,_⟩:=I.list (sG.sqL q)
  obtain ⟨o,h1,h2,_⟩:=p.isList
  exact PySem.W.kia_one PySem.W.kitx_list I.kIn ⟨o,h1,h2⟩ e (fun z=>nomatch z) h
 | dic ks ds=>
  simp only [Rep] at r
  obtain ⟨a,vs,rfl,q,hl,nd,rl⟩:=r
  cases (show u = Value.ref a from rx)
  obtain ⟨_,_,us,_,dd⟩:=dk_rd I.hok (sG.rd q)
  obtain ⟨o,_,_,h1,h2,_⟩:=dd
  exact PySem.W.kia_one PySem.W.kitx_dict I.kIn ⟨o,h1,h2.1⟩ e (fun z=>nomatch z) h
 | obj _ _ _=>cases ho
def isTy (T : String) (d : D) : Bool:=tyD d == T || (T == "int" && tyD d == "bool")
def IsTyOk (K : PySem.W.Frag) (T : String) : Prop:=∀ d : D,isOb d = false->PySem.W.kitOne K (.type (tyD d)) (.type T) = some (isTy T d)
@[simp] def fIs (T : String) (f : FE) : FE:=fun δ=>(f δ).bind fun d=>if isOb d = true then none else some (.bl (isTy T d))
theorem pd_is {e : Expr} {f : FE} {T : Str} {p pT pos : Pos} (T' : String) (hT : IsTyOk X.K T') (hm : X.mg "isinstance" = none) (hmT : X.mg T = none) (hv : bootBuiltins T = some (.type T')) (he : PB X e f) (hg : Gl X "isinstance":=by rfl) (hgT : Gl X T:=by rfl) (hn : T ≠ "__name__":=by decide) (hd : (T == ("__debug__" : Str)) = false:=by decide)
  (hs : starEach [e,.Name T pT] X.env = (false,eval e X.env)::starEach [.Name T pT] X.env:=by rfl) (hs2 : starEach [.Name T pT] X.env = (false,eval (.Name T pT) X.env)::starEach [] X.env:=by rfl) (hpl : (backTo pos (starEach [.Name T pT] X.env)).any (·.1) = false:=by rfl)
  (hb : bootBuiltins "isinstance" = some (.builtin "isinstance"):=by decide +kernel) :
  PD X (.Call (.Name "isinstance" p) [e,.Name T pT] [] pos) (fIs T' f):=by
 obtain ⟨t,pt,k1⟩:=he
 have hc : CallR X (.builtin "isinstance") (fun xs H Q=>∃ G d v,Same G H /\ Rep X.K G d v /\ isOb d = false /\ xs = [v,.ty T'] /\ Q (.bl (isTy T' d)) H):=by
  intro pins s σ H xs us Q I r h
  obtain ⟨G,d,v,sG,rd,ho,rfl,q⟩:=h
  obtain ⟨u,w',rfl,r1,r2⟩:=vals2 r
  cases (show w' = Value.type T' from r2)
  exact isinst_D I sG rd r1 ho (hT d ho) fun tk=>⟨.bl _,H,I.tok tk,rfl,q⟩
 refine ⟨_,pe_callB hc hg hm hb (pa_cons pt (pa_cons (pe_bltn (v:=.ty T') hgT hmT hv rfl hn hd) pa_nil hs2) hs) (by decide) (by decide) hs hpl,fun B G H δ σ d Q sG rs ef k=>?_⟩
 unfold fIs at ef
 obtain ⟨x,e1,ef⟩:=obE ef
 split at ef
 ·cases ef
 ·rename_i ho
  cases ef
  exact k1 B G H δ σ x _ sG rs e1 fun v G1 H1 g1 r1=>⟨H1,x,v,Same.refl _,r1.all g1.s,Bool.eq_false_iff.mpr ho,rfl,k _ G1 H1 g1 (by simp [Rep])⟩
def tOf (K : PySem.W.Frag) (f : FE) : TE:=fun σ H Q=>∃ B G δ d,Same G H /\ RepS K B G H δ σ /\ f δ = some d /\ ∀ v G' H',Grow G H G' H'->Rep K G' d v->Q v H'
theorem PD.canon {e : Expr} {f : FE} (h : PD X e f) : PE X e (tOf X.K f):=by
 obtain ⟨t,pt,k⟩:=h
 intro pins s σ H Q I ⟨B,G,δ,d,sG,rs,ef,q⟩
 exact pt pins s σ H Q I (k B G H δ σ d Q sG rs ef q)
theorem gives_tOf {K : PySem.W.Frag} {f : FE} : Gives K (tOf K f) f:=fun B G H δ σ d Q sG rs e k=>⟨B,G,δ,d,sG,rs,e,k⟩
def ttOf (K : PySem.W.Frag) (f : En->Option Bool) : TT:=fun σ H Q=>∃ B G δ b,Same G H /\ RepS K B G H δ σ /\ f δ = some b /\ ∀ G' H',Grow G H G' H'->Q b H'
theorem PIfsD.canon {ifs : List Expr} {f : En->Option Bool} (h : PIfsD X ifs f) : PIfs X ifs (ttOf X.K f):=by
 obtain ⟨t,pt,k⟩:=h
 intro pins s σ H Q I ⟨B,G,δ,b,sG,rs,ef,q⟩
 exact pt pins s σ H Q I (k B G H δ σ b Q sG rs ef q)
theorem compOk0 {N : List Str} {nl : Nat} {scope : Scope} (hk : scope.kind = .function) (hn : ∀ y ∈ scope.names,y.2 ≠ .free /\ y.2 ≠ .cell) (hl : ∀ y ∈ scope.names,y.2 = .local->scope.names.lookup y.1 = some .local) (hN : N.length = nl) : CompOk X N nl [] scope [] where
 clos:=closureFor_none fun x hx=>(hn x hx).1
 nocell:=fun y hy=>(hn y hy).2
 kind:=hk
 names:=hl
 cells:=fun x c e=>nomatch e
 has:=fun x h=>by
  exfalso
  have key : ∀ k,(relabel scope X.env).names.lookup x = some k->k = .cell \/ k = .free->False:=fun k e hk=>by
   have hm:=PySem.mem_of_lookup e
   unfold relabel at hm
   obtain ⟨⟨n,k0⟩,h1,h2⟩:=List.mem_map.mp hm
   have hf:=hn _ h1
   have hc : (k0 == NameKind.free && X.env.scope.kind == .function && X.env.kindOf n == some .cell) = false:=by
    have : (k0 == NameKind.free) = false:=by simpa using hf.1
    rw [this]; rfl
   dsimp only at h2
   rw [hc] at h2
   have e2 : k0 = k:=congrArg Prod.snd h2
   subst e2
   rcases hk with z | z
   ·exact hf.2 z
   ·exact hf.1 z
  rcases h with h | h
  ·exact key _ h (.inl rfl)
  ·exact key _ h (.inr rfl)
 len:=by simpa using hN
 free:=fun k j x e=>by simp at e
theorem pr_comp' {N : List Str} {nl i : Nat} {js : List Nat} {scope : Scope} {cl : List (Str × Addr)} {elt iter : Expr} {ifs : List Expr} {x : Str} {px pos : Pos} {it : En->Option (List D)} {c : En->Option Bool} {g : FE}
  (hc : X.calm = true) (ok : CompOk X N nl js scope cl) (hi : PID X (.Name x px) iter it) (hin : i < nl) (hNd : N.Nodup) (hix : N[i]? = some x) (hx : scope.names.lookup x = some .local)
  (hjs : js.Nodup) (ht : ∀ C s₀ H₀ ex,PIfsD (compCx X N scope cl C s₀ H₀ ex) ifs c) (he : ∀ C s₀ H₀ ex,PD (compCx X N scope cl C s₀ H₀ ex) elt g)
  (hs : ∀ x,foldedSetIterable iter X.env x = pure x:=by intro _; rfl) :
  PR X (.ListComp elt [⟨.Name x px,iter,ifs,0⟩] scope pos) (fComp nl js i it c g):=
 pr_comp hc ok hi hin hNd hix hx hjs ⟨ttOf X.K c,fun C s₀ H₀ ex=>(ht C s₀ H₀ ex).canon,fun B G H δ σ b Q sG rs e k=>⟨B,G,δ,b,sG,rs,e,k⟩⟩ ⟨tOf X.K g,fun C s₀ H₀ ex=>(he C s₀ H₀ ex).canon,gives_tOf⟩ hs
end
section
variable {P : Program} {w : World} {K : PySem.W.Frag} {mg : Str->Option Value} {base : Heap}
def startD (N : List Str) (ds : List D) : En:=ds.map (fun d=>some (.sh d))++List.replicate (N.length - ds.length) none
theorem repS_start {N : List Str} {G H : Hp} {ds : List D} {vs : List V} (r : RepL K G ds vs) : RepS K H G H (startD N ds) (start N vs):=by
 have hl:=r.length
 refine ⟨by simp [startD,start,hl],fun i x e=>?_,fun i j x y _ _ _ e=>?_⟩
 ·unfold startD at e
  unfold start
  by_cases hi : i < ds.length
  ·rw [List.getElem?_append_left (by simpa using hi),List.getElem?_map] at e
   obtain ⟨d,e1,e2⟩:=omE e
   cases e2
   obtain ⟨v,h1,h2⟩:=r.get e1
   exact ⟨v,by rw [List.getElem?_append_left (by simp; omega),List.getElem?_map,h1]; rfl,h2⟩
  ·rw [List.getElem?_append_right (by simpa using hi),List.getElem?_replicate] at e
   split at e <;> cases e
 ·exfalso
  unfold startD at e
  by_cases hi : i < ds.length
  ·rw [List.getElem?_append_left (by simpa using hi),List.getElem?_map] at e
   obtain ⟨d,e1,e2⟩:=omE e
   cases e2
  ·rw [List.getElem?_append_right (by simpa using hi),List.getElem?_replicate] at e
   split at e <;> cases e
def runF (N : List Str) (n : Nat) (fb : FS) : List D->Option Rs:=fun ds=>if ds.length = n then (match fb (startD N ds) with | some (.rt d _)=>some d | some (.nx _)=>some (.sh .non) | _=>none) else none
def DefAt (K : PySem.W.Frag) (mg : Str->Option Value) (x : Str) (st : Stmt) : Prop:=∃ f fd,Fun K x x st f fd /\ mg x = some (.ref f)
theorem defAt_mk {h : Heap} {x : Str} {st : Stmt} {f : Addr} {oc : Value} {od an : Option Addr} {osl : Array (Option Value)} {kV doc pm cdv ct : Value} (X : K.In h) (G : h.Ns mainGlobals mg) (a : PySem.W.nsIn K mainGlobals x = some (some (.ref f)))
  (l : K.lookup f = some ⟨oc,od,.func (PySem.W.fnOf x x (defArgs st) (defBody st) (defScope st) .none kV doc pm an cdv ct),osl⟩) (c : PySem.W.codeIn K cdv x = true) (k : PySem.W.keepIn K (.ref f) = true) : DefAt K mg x st:=
 ⟨f,_,fun_mk l c k,PySem.W.mg_of X G a⟩
def GlobAt (K : PySem.W.Frag) (mg : Str->Option Value) (x : Str) (d : D) : Prop:=∃ v u,mg x = some u /\ RelV v u /\ ∀ G,Rep K G d v
theorem GlobAt.pd {X : Cx} {x : Str} {d : D} {pos : Pos} (h : GlobAt X.K X.mg x d) (hg : Gl X x:=by rfl) (hd : (x == ("__debug__" : Str)) = false:=by decide) : PD X (.Name x pos) (fC d):=by
 obtain ⟨v,u,hm,r,rep⟩:=h
 exact pd_glob hg hm r rep hd
abbrev cxD (P : Program) (w : World) (K : PySem.W.Frag) (mg : Str->Option Value) (base : Heap) (N : List Str) (x : Str) (scope : Scope) (f : Addr) (cdv : Value) (A : Around) (outer : List Env) (s : Shared) (H : Hp) (E : XK) : Cx:=
 (cxOf CX0 P w K mg base N x scope f cdv A outer s H E).nox
theorem def_runF {x : Str} {st : Stmt} {N ps : List Str} {k : Nat} {fb : FS} {f : Addr} {fd : FuncData} (F : Fun K x x st f fd) (S : FnScope N ps (defScope st))
  (hbody : ∀ (f : Addr) (cdv : Value) (A : Around) (outer : List Env) (s : Shared) (H : Hp) (E : XK),Room k (A.deeper (envOfC x (defScope st) s.heap.objs.size f cdv))->PSsD (cxD P w K mg base N x (defScope st) f cdv A outer s H E) (defBody st) fb) :
  FnOk P w K mg base CX0 (k + 1) f fd ps (spD K (runF N ps.length fb)):=by
 refine F.ok S (fun vs H Q E h=>?_) (fun cdv A outer s H vs Q E hr h=>?_)
 ·obtain ⟨G,ds,d,sG,r,e,_⟩:=h
  rw [<- r.length]
  unfold runF at e
  split at e
  ·rename_i hl; exact hl
  ·cases e
 ·obtain ⟨G,ds,d,sG,r,e,q⟩:=h
  obtain ⟨t,pt,kt⟩:=hbody f cdv A outer s H E hr
  refine ⟨t,pt,?_⟩
  have gr : ∀ {G' H' : Hp},Stp H G G' H'->Grow G H G' H':=fun a=>⟨a.g,a.b,a.s,a.n⟩
  unfold runF at e
  split at e
  ·split at e
   ·rename_i eb
    cases e
    refine kt H G H _ _ _ _ sG (Same.refl _) (repS_start r) eb ?_
    cases d with
    | sh d=>exact fun v _ G' H' a _ rv=>q v G' H' (gr a) rv
    | fr m=>exact fun p vs _ G' H' a _=>q p vs G' H' (gr a)
   ·rename_i eb
    cases e
    exact kt H G H _ _ _ _ sG (Same.refl _) (repS_start r) eb fun σ' G' H' a rv=>q _ G' H' (gr a) (by simp [Rep])
   ·cases e
  ·cases e
theorem def_run {x : Str} {st : Stmt} {N ps : List Str} {k : Nat} {fb : FS} (F : DefAt K mg x st) (S : FnScope N ps (defScope st))
  (hb : ∀ (kV doc pm : Value) (an : Option Addr) (cdv ct : Value) (us : List Value),us.length = ps.length->bindArgs (PySem.W.fnOf x x (defArgs st) (defBody st) (defScope st) .none kV doc pm an cdv ct) ⟨us,[]⟩ = pure (ps.zip us))
  (hbody : ∀ (f : Addr) (cdv : Value) (A : Around) (outer : List Env) (s : Shared) (H : Hp) (E : XK),Room k (A.deeper (envOfC x (defScope st) s.heap.objs.size f cdv))->PSsD (cxD P w K mg base N x (defScope st) f cdv A outer s H E) (defBody st) fb) :
  DefOk P w K mg base (k + 1) x ps (runF N ps.length fb):=by
 obtain ⟨f,fd,F,hm⟩:=F
 exact ⟨f,fd,def_runF F S hbody,F.binds hb,F.kp,hm⟩
theorem law_at {l : PySem.W.OpenLaw} {w : World} {K : PySem.W.Frag} {mg : Str->Option Value} {fa : Addr} {st : Stmt} {k : Nat} {x : Str} {M : List D->Option Rs} (hfa : mg "law" = some (.ref fa)) (F : DefAt K mg "law" st)
  (hb : ∀ (kV doc pm : Value) (an : Option Addr) (cdv ct : Value) (u : Value),bindArgs (PySem.W.fnOf "law" "law" (defArgs st) (defBody st) (defScope st) .none kV doc pm an cdv ct) ⟨[u],[]⟩ = pure [(x,u)])
  (ok : ∀ (f : Addr) (fd : FuncData) (base : Heap),Fun K "law" "law" st f fd->FnOk l.prog w K mg base CX0 k f fd [x] (spD K M)) :
  ∃ fd : FuncData,(∀ (s : Shared) (v : Value),BindsTo s fd ⟨[v],[]⟩ [(x,v)]) /\ ∀ base : Heap,K.In base->base.Ns mainGlobals mg->FnOk l.prog w K mg base CX0 k fa fd [x] (spD K M):=by
 obtain ⟨f,fd,F,hm⟩:=F
 rw [hfa] at hm
 cases hm
 refine ⟨fd,fun s v=>?_,fun base _ _=>ok _ _ base F⟩
 obtain ⟨oc,od,kV,doc,pm,an,cdv,ct,osl,rfl,lk,hcd⟩:=F.ex
 exact .of_eq (hb kV doc pm an cdv ct v)
theorem repL_ints {K : PySem.W.Frag} {H : Hp} : ∀ (ns : List Int),RepL K H (ns.map D.int) (ns.map V.int)
 | []=>by simp [RepL]
 | n::ns=>by
  simp only [List.map_cons,RepL]
  exact ⟨_,_,rfl,by simp [Rep],repL_ints ns⟩
theorem law_sp {K : PySem.W.Frag} {H : Hp} {a : Addr} {ns : List Int} {M : List D->Option Rs} (h : SqL K H a (ns.map V.int)) (e : M [.lst (ns.map D.int)] = some (.sh (.bl true))) : spD K M [.ref a] H (fun v _=>v = .bl true) fun _ _ _=>False:=by
 refine ⟨H,[.lst (ns.map D.int)],.sh (.bl true),Same.refl _,?_,e,fun v G' H' g r=>by simpa only [Rep] using r⟩
 simp only [RepL,Rep]
 exact ⟨_,_,rfl,⟨a,_,rfl,h,repL_ints ns⟩,rfl⟩
theorem globAt_int {h : Heap} {x : Str} {i : Int} {t : Tok} (X : K.In h) (G : h.Ns mainGlobals mg) (a : PySem.W.nsIn K mainGlobals x = some (some (.int i t))) : GlobAt K mg x (.int i):=
 ⟨.int i,_,PySem.W.mg_of X G a,⟨t,rfl⟩,fun _=>by simp [Rep]⟩
theorem repL_strs {K : PySem.W.Frag} {H : Hp} : ∀ (ns : List Str),RepL K H (ns.map D.str) (ns.map V.str)
 | []=>by simp [RepL]
 | n::ns=>by
  simp only [List.map_cons,RepL]
  exact ⟨_,_,rfl,by simp [Rep],repL_strs ns⟩
theorem globAt_strs {h : Heap} {x : Str} {a : Addr} {its : Array Value} {n : Nat} {dd : Option Addr} {sl : Array (Option Value)} {ws : List Str} (X : K.In h) (G : h.Ns mainGlobals mg) (e : PySem.W.nsIn K mainGlobals x = some (some (.ref a)))
  (l : K.lookup a = some ⟨.type "tuple",dd,.seq its n,sl⟩) (hs : its.size <= sizeLine) (v : Vals (ws.map V.str) its.toList) : GlobAt K mg x (.tup (ws.map D.str)):=by
 refine ⟨.ref a,_,PySem.W.mg_of X G e,rfl,fun G=>?_⟩
 simp only [Rep]
 exact ⟨a,_,rfl,.inr ⟨_,its,n,l,rfl,rfl,hs,v⟩,repL_strs ws⟩
theorem tyOk_int {K : PySem.W.Frag} : IsTyOk K "int":=fun d ho=>by cases d <;> first | rfl | cases ho
theorem tyOk_bool {K : PySem.W.Frag} : IsTyOk K "bool":=fun d ho=>by cases d <;> first | rfl | cases ho
theorem tyOk_str {K : PySem.W.Frag} : IsTyOk K "str":=fun d ho=>by cases d <;> first | rfl | cases ho
theorem tyOk_tuple {K : PySem.W.Frag} : IsTyOk K "tuple":=fun d ho=>by cases d <;> first | rfl | cases ho
end
section
variable {X : Cx}
def leD (x y : D) : Option D:=(iCmp (fun i j=>decide (i <= j)) x y).or (sLe x y)
theorem od_leD : OpD X (compareOp .LtE) leD:=od_le.or od_sle
def gtD : D->D->Option D:=iCmp fun i j=>decide (j < i)
def mulD : D->D->Option D:=iMul
theorem od_mul : OpD X (binaryOp .Mult) mulD:=od_imul
theorem pi_any {tg l : Expr} {tl : TE} (hl : PE X l tl) : PI X tg l (fun σ H R=>tl σ H fun x H1=>(∃ a,x = .ref a /\ (∃ xs,SqL X.K H1 a xs) /\ R (Itl X.K a) H1) \/ (∃ a,x = .ref a /\ (∃ xs,SqT X.K H1 a xs) /\ R (Itt X.K a) H1) \/ (∃ z,x = .str z /\ R (Its z) H1)):=by
 intro pins s σ H R I h
 -- the value first,then the walk by its kind
 refine thn (hl pins s σ H _ I h) fun v s1 ⟨x,H1,I1,r1,q1⟩=>?_
 have lift : ∀ {wi : (It->Hp->Prop)->Prop},True:=fun {_}=>trivial
 rcases q1 with ⟨a,e,⟨xs,hq⟩,q⟩ | ⟨a,e,⟨xs,hq⟩,q⟩ | ⟨z,e,q⟩
 ·subst e
  cases r1
  obtain ⟨its,rv,p,hz⟩:=I1.list hq
  refine wpAny_pyIter_list p.isList ?_
  refine ⟨s1.heap.objs.size,[s1.heap.objs.size],_,_,H1,rfl,I1.kept (t':=s1.toks) fun b o e=>Heap.get?_push_of_some _ e,turn_list a _,⟨_,Heap.get?_push_size _ rfl,rfl,rfl⟩,fun b hb=>?_,q⟩
  have e : b = s1.heap.objs.size:=by simpa using hb
  subst e
  exact I1.fpOk (Nat.le_refl _) (I1.hok.fresh (Nat.le_refl _))
 ·subst e
  cases r1
  obtain ⟨its,rv,p,hz⟩:=I1.tuple hq
  refine wpAny_pyIter_tuple (show s1.heap.IsTuple a its.toArray from p) ?_
  refine ⟨s1.heap.objs.size,[s1.heap.objs.size],_,_,H1,rfl,I1.kept (t':=s1.toks) fun b o e=>Heap.get?_push_of_some _ e,turn_tuple a _,⟨_,Heap.get?_push_size _ rfl,rfl,rfl⟩,fun b hb=>?_,q⟩
  have e : b = s1.heap.objs.size:=by simpa using hb
  subst e
  exact I1.fpOk (Nat.le_refl _) (I1.hok.fresh (Nat.le_refl _))
 ·subst e
  obtain ⟨t,rfl⟩:=r1
  have fin : ∀ (T : String) (o : Obj),Turn X.prog X.w X.K tg (Its z) [s1.heap.objs.size] s1.heap.objs.size (fun i h=>h.IsStrIter s1.heap.objs.size T z t i)->
    (s1.heap.push o).IsStrIter s1.heap.objs.size T z t 0->PIE X pins σ tg R (.ref s1.heap.objs.size) { s1 with heap:=s1.heap.push o }:=fun T o TT st=>by
   refine ⟨s1.heap.objs.size,[s1.heap.objs.size],_,_,H1,rfl,I1.kept (t':=s1.toks) fun b o e=>Heap.get?_push_of_some _ e,TT,st,fun b hb=>?_,q⟩
   have e : b = s1.heap.objs.size:=by simpa using hb
   subst e
   exact I1.fpOk (Nat.le_refl _) (I1.hok.fresh (Nat.le_refl _))
  cases ha : z.cps.all (· < 128)
  ·exact wpAny_pyIter_wide ha (fin "str_iterator" _ (turn_str _ _ z t (fun A hA=>Walks.strWide hA _ z t) fun A i s Q E st h=>wpAny_pyIter_striter_wide st h) ⟨_,Heap.get?_push_size _ rfl,rfl,rfl⟩)
  ·exact wpAny_pyIter_ascii ha (fin "str_ascii_iterator" _ (turn_str _ _ z t (fun A hA=>Walks.strAscii hA _ z t) fun A i s Q E st h=>wpAny_pyIter_striter_ascii st h) ⟨_,Heap.get?_push_size _ rfl,rfl,rfl⟩)
@[simp] def oSeq (f : FE) : En->Option (List D):=fun δ=>match f δ with | some (.lst ds)=>some ds | some (.tup ds)=>some ds | some (.str z)=>some (signs z) | _=>none
theorem pid_seq {tg e : Expr} {f : FE} (he : PD X e f) : PID X tg e (oSeq f):=by
 obtain ⟨t,pt,k⟩:=he
 refine ⟨_,pi_any pt,fun B G H δ σ xs R sG rs e q=>?_⟩
 unfold oSeq at e
 split at e
 ·rename_i ds e1
  cases e
  refine k B G H δ σ _ _ sG rs e1 fun v G1 H1 g1 r1=>.inl ?_
  simp only [Rep] at r1
  obtain ⟨a,vs,rfl,hq,rl⟩:=r1
  refine ⟨a,rfl,⟨vs,g1.s.sqL hq⟩,q _ G1 H1 g1 ⟨fun i d G' H' ed a1 b1=>?_,fun G' H' a1 b1=>⟨vs,(a1.trans b1).sqL hq,by rw [rl.length]; exact Nat.le_refl _⟩⟩⟩
  obtain ⟨x,ex,rx⟩:=rl.get ed
  refine ⟨⟨vs,x,(a1.trans b1).sqL hq,ex⟩,fun x' H2 y=>⟨y.1,?_⟩⟩
  have:=y.2 vs ((a1.trans b1).sqL hq)
  rw [ex] at this
  cases this
  exact rx.mono a1
 ·rename_i ds e1
  cases e
  refine k B G H δ σ _ _ sG rs e1 fun v G1 H1 g1 r1=>.inr (.inl ?_)
  simp only [Rep] at r1
  obtain ⟨a,vs,rfl,hq,rl⟩:=r1
  refine ⟨a,rfl,⟨vs,g1.s.sqT hq⟩,q _ G1 H1 g1 ⟨fun i d G' H' ed a1 b1=>?_,fun G' H' a1 b1=>⟨vs,(a1.trans b1).sqT hq,by rw [rl.length]; exact Nat.le_refl _⟩⟩⟩
  obtain ⟨x,ex,rx⟩:=rl.get ed
  refine ⟨⟨vs,x,(a1.trans b1).sqT hq,ex⟩,fun x' H2 y=>⟨y.1,?_⟩⟩
  have:=y.2 vs ((a1.trans b1).sqT hq)
  rw [ex] at this
  cases this
  exact rx.mono a1
 ·rename_i z e1
  cases e
  refine k B G H δ σ _ _ sG rs e1 fun v G1 H1 g1 r1=>.inr (.inr ?_)
  simp only [Rep] at r1
  refine ⟨z,r1,q _ G1 H1 g1 ⟨fun i d G' H' ed a1 b1=>?_,fun G' H' a1 b1=>?_⟩⟩
  ·unfold signs at ed
   rw [List.getElem?_map] at ed
   obtain ⟨c,ec,rfl⟩:=omE ed
   have ec' : z.cps[i]? = some c:=by simpa using ec
   refine ⟨?_,fun x' H2 y=>?_⟩
   ·show i < z.cps.size
    obtain ⟨hi,_⟩:=Array.getElem?_eq_some_iff.mp ec'
    exact hi
   ·obtain ⟨y1,c',ec2,rfl⟩:=y
    rw [ec'] at ec2
    cases ec2
    exact ⟨y1,by simp [Rep]⟩
  ·show (signs z).length = z.cps.size
   simp [signs]
 ·cases e
@[simp] def f1 (o : D->Option D) (f : FE) : FE:=fun δ=>(f δ).bind o
def negD : D->Option D | .int i=>some (.int (-i)) | _=>none
theorem pd_neg {e : Expr} {f : FE} {pos : Pos} (he : PD X e f) : PD X (.UnaryOp .USub e pos) (f1 negD f):=by
 obtain ⟨t,pt,k1⟩:=he
 refine ⟨_,pe_un un_neg pt,fun B G H δ σ d Q sG rs ef k=>?_⟩
 unfold f1 at ef
 obtain ⟨x,e1,ef⟩:=obE ef
 unfold negD at ef
 split at ef
 ·cases ef
  exact k1 B G H δ σ _ _ sG rs e1 fun v G1 H1 g1 r1=>⟨_,by simpa only [Rep] using r1,k _ G1 H1 g1 (by simp [Rep])⟩
 ·cases ef
end
mutual
def eqA : D->D->Bool
 | .tup xs,y=>match y with | .tup ys=>eqAs xs ys | _=>false
 | .lst xs,y=>match y with | .lst ys=>eqAs xs ys | _=>false
 | .dic _ _,_=>false
 | .obj _ _ _,_=>false
 | .non,y=>if flatD y = true then eqV .non (toV y) else false
 | .bl b,y=>if flatD y = true then eqV (.bl b) (toV y) else false
 | .int i,y=>if flatD y = true then eqV (.int i) (toV y) else false
 | .str x,y=>if flatD y = true then eqV (.str x) (toV y) else false
def eqAs : List D->List D->Bool
 | [],ys=>ys.isEmpty
 | x::xs,ys=>match ys with | []=>false | y::ys=>eqA x y && eqAs xs ys
end
def plainN : Nat->D->Bool
 | _,.dic _ _=>false
 | _,.obj _ _ _=>false
 | 0,.tup _=>false
 | 0,.lst _=>false
 | n + 1,.tup xs=>xs.all (plainN n)
 | n + 1,.lst xs=>xs.all (plainN n)
 | _,_=>true
theorem eqA_flat {x y : D} (hx : flatD x = true) (hy : flatD y = true) : eqA x y = eqV (toV x) (toV y):=by
 cases x with
 | tup _=>cases hx
 | lst _=>cases hx
 | dic _ _=>cases hx
 | obj _ _ _=>cases hx
 | _=>simp only [eqA,hy,if_true,toV]
theorem eqV_refl {v : V} (h : flatV v = true) : eqV v v = true:=by
 cases v with
 | non=>rfl
 | bl b=>simp [eqV]
 | int b=>simp [eqV]
 | str b=>simp [eqV]
 | _=>cases h
theorem eqAs_ne : ∀ {xs ys : List D},xs.length ≠ ys.length->eqAs xs ys = false
 | [],[],h=>absurd rfl h
 | [],_::_,_=>by simp [eqAs]
 | _::_,[],_=>by simp [eqAs]
 | x::xs,y::ys,h=>by
  simp only [eqAs]
  rw [eqAs_ne (fun z=>h (by simp [z])),Bool.and_false]
theorem eqAs_all : ∀ {xs ys : List D},xs.length = ys.length->eqAs xs ys = (List.range xs.length).all fun j=>eqA (xs.getD j .non) (ys.getD j .non)
 | [],[],_=>by simp [eqAs]
 | x::xs,y::ys,h=>by
  simp only [eqAs]
  rw [eqAs_all (show xs.length = ys.length by simpa using h),List.length_cons,List.range_succ_eq_map,List.all_cons,List.all_map]
  rfl
section
variable {X : Cx} {pins : List (Addr × Obj)} {σ : St} {H : Hp} {s : Shared}
theorem eqA_same (I : Inv X pins σ H s) : ∀ (n : Nat) {x y : D} {v : V},plainN n x = true->plainN n y = true->Rep X.K H x v->Rep X.K H y v->eqA x y = true:=by
 intro n
 have flatcase : ∀ {x y : D} {v : V},flatD x = true->Rep X.K H x v->Rep X.K H y v->eqA x y = true:=fun {x y v} hx rx ry=>by
  have h1:=rep_flat hx rx
  have hy : flatD y = true:=by
   cases y with
   | tup ys=>simp only [Rep] at ry; obtain ⟨a,us,e,_⟩:=ry; exact absurd (h1.1.symm.trans e) (by cases x with | tup _=>cases hx | lst _=>cases hx | dic _ _=>cases hx | obj _ _ _=>cases hx | _=>intro z; cases z)
   | lst ys=>simp only [Rep] at ry; obtain ⟨a,us,e,_⟩:=ry; exact absurd (h1.1.symm.trans e) (by cases x with | tup _=>cases hx | lst _=>cases hx | dic _ _=>cases hx | obj _ _ _=>cases hx | _=>intro z; cases z)
   | dic ks ys=>simp only [Rep] at ry; obtain ⟨a,us,e,_⟩:=ry; exact absurd (h1.1.symm.trans e) (by cases x with | tup _=>cases hx | lst _=>cases hx | dic _ _=>cases hx | obj _ _ _=>cases hx | _=>intro z; cases z)
   | obj c ks ys=>simp only [Rep] at ry; obtain ⟨a,_,_,_,e,_⟩:=ry; exact absurd (h1.1.symm.trans e) (by cases x with | tup _=>cases hx | lst _=>cases hx | dic _ _=>cases hx | obj _ _ _=>cases hx | _=>intro z; cases z)
   | _=>rfl
  have h2:=rep_flat hy ry
  rw [eqA_flat hx hy,<- h1.1,<- h2.1]
  exact eqV_refl h1.2
 induction n with
 | zero=>
  intro x y v px py rx ry
  cases x with
  | tup xs=>cases px
  | lst xs=>cases px
  | dic ks xs=>cases px
  | obj _ _ _=>cases px
  | _=>exact flatcase rfl rx ry
 | succ n ih=>
  intro x y v px py rx ry
  have lists : ∀ {xs ys : List D} {vs : List V},xs.all (plainN n) = true->ys.all (plainN n) = true->RepL X.K H xs vs->RepL X.K H ys vs->eqAs xs ys = true:=by
   intro xs
   induction xs with
   | nil=>
    intro ys vs _ _ r1 r2
    simp only [RepL] at r1
    subst r1
    cases ys with
    | nil=>simp [eqAs]
    | cons y ys=>simp only [RepL] at r2; obtain ⟨_,_,e,_⟩:=r2; cases e
   | cons x xs ih2=>
    intro ys vs p1 p2 r1 r2
    simp only [RepL] at r1
    obtain ⟨v,us,rfl,q1,q2⟩:=r1
    cases ys with
    | nil=>simp only [RepL] at r2; cases r2
    | cons y ys=>
     simp only [RepL] at r2
     obtain ⟨v2,us2,e,q3,q4⟩:=r2
     cases e
     rw [List.all_cons,Bool.and_eq_true] at p1 p2
     simp only [eqAs]
     rw [ih p1.1 p2.1 q1 q3,ih2 p1.2 p2.2 q2 q4]
     rfl
  cases x with
  | tup xs=>
   simp only [Rep] at rx
   obtain ⟨a,vs,rfl,h1,h2⟩:=rx
   cases y with
   | tup ys=>
    simp only [Rep] at ry
    obtain ⟨b,us,e,h3,h4⟩:=ry
    cases e
    obtain rfl:=I.tuple_inj h1 h3
    simp only [eqA]
    exact lists px py h2 h4
   | lst ys=>
    simp only [Rep] at ry
    obtain ⟨b,us,e,h3,h4⟩:=ry
    cases e
    obtain ⟨_,_,p1,_⟩:=I.tuple h1
    obtain ⟨_,_,p2,_⟩:=I.list h3
    obtain ⟨o1,g1,c1,_⟩:=p1
    obtain ⟨o2,g2,c2,_⟩:=p2.isList
    rw [g1] at g2; cases g2; rw [c1] at c2; exact absurd (Value.type.inj c2) (by decide)
   | dic ks ys=>cases py
   | obj _ _ _=>cases py
   | _=>simp only [Rep] at ry; cases ry
  | lst xs=>
   simp only [Rep] at rx
   obtain ⟨a,vs,rfl,h1,h2⟩:=rx
   cases y with
   | lst ys=>
    simp only [Rep] at ry
    obtain ⟨b,us,e,h3,h4⟩:=ry
    cases e
    obtain rfl:=I.list_inj h1 h3
    simp only [eqA]
    exact lists px py h2 h4
   | tup ys=>
    simp only [Rep] at ry
    obtain ⟨b,us,e,h3,h4⟩:=ry
    cases e
    obtain ⟨_,_,p1,_⟩:=I.tuple h3
    obtain ⟨_,_,p2,_⟩:=I.list h1
    obtain ⟨o1,g1,c1,_⟩:=p1
    obtain ⟨o2,g2,c2,_⟩:=p2.isList
    rw [g1] at g2; cases g2; rw [c1] at c2; exact absurd (Value.type.inj c2) (by decide)
   | dic ks ys=>cases py
   | obj _ _ _=>cases py
   | _=>simp only [Rep] at ry; cases ry
  | dic ks xs=>cases px
  | obj _ _ _=>cases px
  | _=>exact flatcase rfl rx ry
theorem in1_units (A : Around) : A.in1.units = A.units + 1:=rfl
theorem eqAt_A (I : Inv X pins σ H s) : ∀ (n : Nat) {x y : D} {v v' : V} {u u' : Value} {A : Around},plainN n x = true->plainN n y = true->Rep X.K H x v->Rep X.K H y v'->RelV v u->RelV v' u'->A.units + n < cLine->SeqAt.EqAt A s u u' (eqA x y):=by
 intro n
 -- a scalar and anything of no depth
 have ff : ∀ {x y : D} {v v' : V} {u u' : Value} {A : Around},flatD x = true->flatD y = true->Rep X.K H x v->Rep X.K H y v'->RelV v u->RelV v' u'->SeqAt.EqAt A s u u' (eqA x y):=fun {x y v v' u u' A} hx hy rx ry r r'=>by
  have h1:=rep_flat hx rx
  have h2:=rep_flat hy ry
  rw [eqA_flat hx hy,<- h1.1,<- h2.1]
  exact eqAt_V r r' h1.2 h2.2
 induction n with
 | zero=>
  intro x y v v' u u' A px py rx ry r r' hu
  refine ff ?_ ?_ rx ry r r'
  ·cases x <;> first | rfl | cases px
  ·cases y <;> first | rfl | cases py
 | succ n ih=>
  intro x y v v' u u' A px py rx ry r r' hu
  have hu' : A.units < cLine:=by omega
  have items : ∀ {xs ys : List D} {vs us : List V} {its its2 : List Value},xs.all (plainN n) = true->ys.all (plainN n) = true->RepL X.K H xs vs->RepL X.K H ys us->Vals vs its->Vals us its2->
    ∀ j (h1 : j < its.toArray.size) (h2 : j < its2.toArray.size),SeqAt.EqAt A.in1 s its.toArray[j] its2.toArray[j] (eqA (xs.getD j .non) (ys.getD j .non)):=fun {xs ys vs us its its2} p1 p2 r1 r2 v1 v2 j h1 h2=>by
   have l1:=r1.length
   have l2:=r2.length
   have l3:=v1.length
   have l4:=v2.length
   have j1 : j < xs.length:=by simp at h1; omega
   have j2 : j < ys.length:=by simp at h2; omega
   have e1 : xs[j]? = some (xs.getD j .non):=by rw [List.getD_eq_getElem?_getD,List.getElem?_eq_getElem j1]; rfl
   have e2 : ys[j]? = some (ys.getD j .non):=by rw [List.getD_eq_getElem?_getD,List.getElem?_eq_getElem j2]; rfl
   obtain ⟨w1,g1,q1⟩:=r1.get e1
   obtain ⟨w2,g2,q2⟩:=r2.get e2
   obtain ⟨u1,k1,k2⟩:=v1.get g1
   obtain ⟨u2,k3,k4⟩:=v2.get g2
   have t1 : its.toArray[j] = u1:=by
    obtain ⟨_,z⟩:=List.getElem?_eq_some_iff.mp k1
    simpa using z
   have t2 : its2.toArray[j] = u2:=by
    obtain ⟨_,z⟩:=List.getElem?_eq_some_iff.mp k3
    simpa using z
   rw [t1,t2]
   exact ih (List.all_eq_true.mp p1 _ (List.mem_of_getElem? e1)) (List.all_eq_true.mp p2 _ (List.mem_of_getElem? e2)) q1 q2 k2 k4 (by rw [in1_units]; omega)
  have tups : ∀ {xs ys : List D},plainN (n + 1) (.tup xs) = true->plainN (n + 1) (.tup ys) = true->Rep X.K H (.tup xs) v->Rep X.K H (.tup ys) v'->SeqAt.EqAt A s u u' (eqA (.tup xs) (.tup ys)):=fun {xs ys} px py rx ry=>by
   have rx0:=rx
   have ry0:=ry
   simp only [Rep] at rx ry
   obtain ⟨a,vs,rfl,h1,h2⟩:=rx
   obtain ⟨b,us,rfl,h3,h4⟩:=ry
   cases r
   cases r'
   by_cases hab : a = b
   ·subst hab
    rw [eqA_same I (n + 1) px py rx0 ry0]
    exact SeqAt.EqAt.same _
   ·obtain ⟨its,v1,p1,_⟩:=I.tuple h1
    obtain ⟨its2,v2,p2,_⟩:=I.tuple h3
    have q:=SeqAt.RcAt.tuples (e:=fun j=>eqA (xs.getD j .non) (ys.getD j .non)) p1 p2 hu' (items px py h2 h4 v1 v2)
    have e : ((List.range (min its.toArray.size its2.toArray.size)).all (fun j=>eqA (xs.getD j .non) (ys.getD j .non)) && its.toArray.size == its2.toArray.size) = eqA (.tup xs) (.tup ys):=by
     have l1:=h2.length
     have l2:=h4.length
     have l3:=v1.length
     have l4:=v2.length
     simp only [eqA]
     by_cases hl : xs.length = ys.length
     ·rw [eqAs_all hl]
      have : min its.toArray.size its2.toArray.size = xs.length:=by simp; omega
      rw [this]
      have : (its.toArray.size == its2.toArray.size) = true:=by simp; omega
      rw [this,Bool.and_true]
     ·rw [eqAs_ne hl]
      have : (its.toArray.size == its2.toArray.size) = false:=by simp; omega
      rw [this,Bool.and_false]
    rw [e] at q
    exact SeqAt.EqAt.of_refs hab q
  have lsts : ∀ {xs ys : List D},plainN (n + 1) (.lst xs) = true->plainN (n + 1) (.lst ys) = true->Rep X.K H (.lst xs) v->Rep X.K H (.lst ys) v'->SeqAt.EqAt A s u u' (eqA (.lst xs) (.lst ys)):=fun {xs ys} px py rx ry=>by
   have rx0:=rx
   have ry0:=ry
   simp only [Rep] at rx ry
   obtain ⟨a,vs,rfl,h1,h2⟩:=rx
   obtain ⟨b,us,rfl,h3,h4⟩:=ry
   cases r
   cases r'
   by_cases hab : a = b
   ·subst hab
    rw [eqA_same I (n + 1) px py rx0 ry0]
    exact SeqAt.EqAt.same _
   ·obtain ⟨its,v1,p1,_⟩:=I.list h1
    obtain ⟨its2,v2,p2,_⟩:=I.list h3
    have l1:=h2.length
    have l2:=h4.length
    have l3:=v1.length
    have l4:=v2.length
    simp only [eqA]
    by_cases hl : xs.length = ys.length
    ·have q:=SeqAt.RcAt.lists (e:=fun j=>eqA (xs.getD j .non) (ys.getD j .non)) p1.isList p2.isList (by simp; omega) hu' (items px py h2 h4 v1 v2)
     rw [eqAs_all hl]
     have : its.toArray.size = xs.length:=by simp; omega
     rw [this] at q
     exact SeqAt.EqAt.of_refs hab q
    ·rw [eqAs_ne hl]
     exact SeqAt.EqAt.of_refs hab (SeqAt.RcAt.lists_lengths p1.isList p2.isList (by simp; omega) hu')
  have tupAt : ∀ {xs : List D} {v : V} {u : Value},Rep X.K H (.tup xs) v->RelV v u->∃ a its,u = .ref a /\ s.heap.IsTuple a its:=fun {xs v u} h r=>by
   simp only [Rep] at h
   obtain ⟨a,vs,rfl,h1,h2⟩:=h
   cases r
   obtain ⟨its,_,p,_⟩:=I.tuple h1
   exact ⟨a,_,rfl,p⟩
  have lstAt : ∀ {xs : List D} {v : V} {u : Value},Rep X.K H (.lst xs) v->RelV v u->∃ a its,u = .ref a /\ s.heap.IsList a its:=fun {xs v u} h r=>by
   simp only [Rep] at h
   obtain ⟨a,vs,rfl,h1,h2⟩:=h
   cases r
   obtain ⟨its,_,p,_⟩:=I.list h1
   exact ⟨a,_,rfl,p.isList⟩
  cases x with
  | dic ks xs=>cases px
  | obj _ _ _=>cases px
  | tup xs=>
   cases y with
   | dic ks ys=>cases py
   | obj _ _ _=>cases py
   | tup ys=>exact tups px py rx ry
   | lst ys=>
    obtain ⟨a,i1,rfl,t1⟩:=tupAt rx r
    obtain ⟨b,i2,rfl,t2⟩:=lstAt ry r'
    exact SeqAt.EqAt.tuple_list t1 t2 hu'
   | non=>obtain ⟨a,i1,rfl,t1⟩:=tupAt rx r; simp only [Rep] at ry; subst ry; cases r'; exact SeqAt.EqAt.tuple_none t1 hu'
   | bl b=>obtain ⟨a,i1,rfl,t1⟩:=tupAt rx r; simp only [Rep] at ry; subst ry; cases r'; exact SeqAt.EqAt.tuple_bool b t1 hu'
   | int b=>obtain ⟨a,i1,rfl,t1⟩:=tupAt rx r; simp only [Rep] at ry; subst ry; obtain ⟨t,rfl⟩:=r'; exact SeqAt.EqAt.tuple_int b t t1 hu'
   | str b=>obtain ⟨a,i1,rfl,t1⟩:=tupAt rx r; simp only [Rep] at ry; subst ry; obtain ⟨t,rfl⟩:=r'; exact SeqAt.EqAt.tuple_str b t t1 hu'
  | lst xs=>
   cases y with
   | dic ks ys=>cases py
   | obj _ _ _=>cases py
   | lst ys=>exact lsts px py rx ry
   | tup ys=>
    obtain ⟨a,i1,rfl,t1⟩:=lstAt rx r
    obtain ⟨b,i2,rfl,t2⟩:=tupAt ry r'
    exact SeqAt.EqAt.list_tuple t1 t2 hu'
   | non=>obtain ⟨a,i1,rfl,t1⟩:=lstAt rx r; simp only [Rep] at ry; subst ry; cases r'; exact SeqAt.EqAt.list_none t1 hu'
   | bl b=>obtain ⟨a,i1,rfl,t1⟩:=lstAt rx r; simp only [Rep] at ry; subst ry; cases r'; exact SeqAt.EqAt.list_bool b t1 hu'
   | int b=>obtain ⟨a,i1,rfl,t1⟩:=lstAt rx r; simp only [Rep] at ry; subst ry; obtain ⟨t,rfl⟩:=r'; exact SeqAt.EqAt.list_int b t t1 hu'
   | str b=>obtain ⟨a,i1,rfl,t1⟩:=lstAt rx r; simp only [Rep] at ry; subst ry; obtain ⟨t,rfl⟩:=r'; exact SeqAt.EqAt.list_str b t t1 hu'
  | non=>
   cases y with
   | dic ks ys=>cases py
   | obj _ _ _=>cases py
   | tup ys=>obtain ⟨a,i1,rfl,t1⟩:=tupAt ry r'; simp only [Rep] at rx; subst rx; cases r; exact SeqAt.EqAt.none_tuple t1 hu'
   | lst ys=>obtain ⟨a,i1,rfl,t1⟩:=lstAt ry r'; simp only [Rep] at rx; subst rx; cases r; exact SeqAt.EqAt.none_list t1 hu'
   | _=>exact ff rfl rfl rx ry r r'
  | bl b=>
   cases y with
   | dic ks ys=>cases py
   | obj _ _ _=>cases py
   | tup ys=>obtain ⟨a,i1,rfl,t1⟩:=tupAt ry r'; simp only [Rep] at rx; subst rx; cases r; exact SeqAt.EqAt.bool_tuple b t1 hu'
   | lst ys=>obtain ⟨a,i1,rfl,t1⟩:=lstAt ry r'; simp only [Rep] at rx; subst rx; cases r; exact SeqAt.EqAt.bool_list b t1 hu'
   | _=>exact ff rfl rfl rx ry r r'
  | int b=>
   cases y with
   | dic ks ys=>cases py
   | obj _ _ _=>cases py
   | tup ys=>obtain ⟨a,i1,rfl,t1⟩:=tupAt ry r'; simp only [Rep] at rx; subst rx; obtain ⟨t,rfl⟩:=r; exact SeqAt.EqAt.int_tuple b t t1 hu'
   | lst ys=>obtain ⟨a,i1,rfl,t1⟩:=lstAt ry r'; simp only [Rep] at rx; subst rx; obtain ⟨t,rfl⟩:=r; exact SeqAt.EqAt.int_list b t t1 hu'
   | _=>exact ff rfl rfl rx ry r r'
  | str b=>
   cases y with
   | dic ks ys=>cases py
   | obj _ _ _=>cases py
   | tup ys=>obtain ⟨a,i1,rfl,t1⟩:=tupAt ry r'; simp only [Rep] at rx; subst rx; obtain ⟨t,rfl⟩:=r; exact SeqAt.EqAt.str_tuple b t t1 hu'
   | lst ys=>obtain ⟨a,i1,rfl,t1⟩:=lstAt ry r'; simp only [Rep] at rx; subst rx; obtain ⟨t,rfl⟩:=r; exact SeqAt.EqAt.str_list b t t1 hu'
   | _=>exact ff rfl rfl rx ry r r'
end
section
variable {X : Cx} {pins : List (Addr × Obj)} {σ : St} {H : Hp} {s : Shared}
theorem items_A (I : Inv X pins σ H s) (n : Nat) {A : Around} (hu : A.units + n < cLine) {xs ys : List D} {vs us : List V} {its its2 : List Value} (p1 : xs.all (plainN n) = true) (p2 : ys.all (plainN n) = true) (r1 : RepL X.K H xs vs) (r2 : RepL X.K H ys us) (v1 : Vals vs its) (v2 : Vals us its2) :
  ∀ j (h1 : j < its.toArray.size) (h2 : j < its2.toArray.size),SeqAt.EqAt A s its.toArray[j] its2.toArray[j] (eqA (xs.getD j .non) (ys.getD j .non)):=fun j h1 h2=>by
 have l1:=r1.length
 have l2:=r2.length
 have l3:=v1.length
 have l4:=v2.length
 have j1 : j < xs.length:=by simp at h1; omega
 have j2 : j < ys.length:=by simp at h2; omega
 have e1 : xs[j]? = some (xs.getD j .non):=by rw [List.getD_eq_getElem?_getD,List.getElem?_eq_getElem j1]; rfl
 have e2 : ys[j]? = some (ys.getD j .non):=by rw [List.getD_eq_getElem?_getD,List.getElem?_eq_getElem j2]; rfl
 obtain ⟨w1,g1,q1⟩:=r1.get e1
 obtain ⟨w2,g2,q2⟩:=r2.get e2
 obtain ⟨u1,k1,k2⟩:=v1.get g1
 obtain ⟨u2,k3,k4⟩:=v2.get g2
 have t1 : its.toArray[j] = u1:=by
  obtain ⟨_,z⟩:=List.getElem?_eq_some_iff.mp k1
  simpa using z
 have t2 : its2.toArray[j] = u2:=by
  obtain ⟨_,z⟩:=List.getElem?_eq_some_iff.mp k3
  simpa using z
 rw [t1,t2]
 exact eqAt_A I n (List.all_eq_true.mp p1 _ (List.mem_of_getElem? e1)) (List.all_eq_true.mp p2 _ (List.mem_of_getElem? e2)) q1 q2 k2 k4 hu
theorem tups_eq {xs ys : List D} {its its2 : List Value} (l1 : xs.length = its.length) (l2 : ys.length = its2.length) :
  ((List.range (min its.toArray.size its2.toArray.size)).all (fun j=>eqA (xs.getD j .non) (ys.getD j .non)) && its.toArray.size == its2.toArray.size) = eqAs xs ys:=by
 by_cases hl : xs.length = ys.length
 ·rw [eqAs_all hl]
  have : min its.toArray.size its2.toArray.size = xs.length:=by simp; omega
  rw [this]
  have : (its.toArray.size == its2.toArray.size) = true:=by simp; omega
  rw [this,Bool.and_true]
 ·rw [eqAs_ne hl]
  have : (its.toArray.size == its2.toArray.size) = false:=by simp; omega
  rw [this,Bool.and_false]
end
section
variable {X : Cx}
def rEqT (K : PySem.W.Frag) (neg : Bool) : R2:=fun v u H Q=>∃ xs ys,Rep K H (.tup xs) v /\ Rep K H (.tup ys) u /\ xs.all (plainN 8) = true /\ ys.all (plainN 8) = true /\ Q (.bl (if neg then !eqAs xs ys else eqAs xs ys)) H
def rEqLs (K : PySem.W.Frag) (neg : Bool) : R2:=fun v u H Q=>∃ xs ys,Rep K H (.lst xs) v /\ Rep K H (.lst ys) u /\ xs.all (plainN 8) = true /\ ys.all (plainN 8) = true /\ Q (.bl (if neg then !eqAs xs ys else eqAs xs ys)) H
theorem op_eqT (hu : X.A.units + 20 < cLine) : OpR X (compareOp .Eq) (rEqT X.K false):=by
 intro pins s σ H x y v u Q I rx ry h
 obtain ⟨xs,ys,r1,r2,p1,p2,q⟩:=h
 simp only [Rep] at r1 r2
 obtain ⟨a,vs,rfl,h1,h2⟩:=r1
 obtain ⟨b,us,rfl,h3,h4⟩:=r2
 cases rx
 cases ry
 obtain ⟨its,v1,t1,_⟩:=I.tuple h1
 obtain ⟨its2,v2,t2,_⟩:=I.tuple h3
 refine SeqAt.eq_tupleAt (e:=fun j=>eqA (xs.getD j .non) (ys.getD j .non)) t1 t2 (by omega) (items_A I 8 (by rw [in1_units]; omega) p1 p2 h2 h4 v1 v2) ?_
 rw [tups_eq (h2.length.trans v1.length) (h4.length.trans v2.length)]
 exact ⟨.bl _,H,I,rfl,q⟩
theorem op_neT (hu : X.A.units + 20 < cLine) : OpR X (compareOp .NotEq) (rEqT X.K true):=by
 intro pins s σ H x y v u Q I rx ry h
 obtain ⟨xs,ys,r1,r2,p1,p2,q⟩:=h
 simp only [Rep] at r1 r2
 obtain ⟨a,vs,rfl,h1,h2⟩:=r1
 obtain ⟨b,us,rfl,h3,h4⟩:=r2
 cases rx
 cases ry
 obtain ⟨its,v1,t1,_⟩:=I.tuple h1
 obtain ⟨its2,v2,t2,_⟩:=I.tuple h3
 refine SeqAt.RcNeAt.tuples (e:=fun j=>eqA (xs.getD j .non) (ys.getD j .non)) t1 t2 (by omega) (items_A I 8 (by rw [in1_units]; omega) p1 p2 h2 h4 v1 v2) _ _ _ _ ?_
 rw [tups_eq (h2.length.trans v1.length) (h4.length.trans v2.length)]
 exact ⟨.bl _,H,I,rfl,q⟩
theorem op_eqLs' (hu : X.A.units + 20 < cLine) : OpR X (compareOp .Eq) (rEqLs X.K false):=by
 intro pins s σ H x y v u Q I rx ry h
 obtain ⟨xs,ys,r1,r2,p1,p2,q⟩:=h
 simp only [Rep] at r1 r2
 obtain ⟨a,vs,rfl,h1,h2⟩:=r1
 obtain ⟨b,us,rfl,h3,h4⟩:=r2
 cases rx
 cases ry
 obtain ⟨its,v1,t1,_⟩:=I.list h1
 obtain ⟨its2,v2,t2,_⟩:=I.list h3
 have l1:=h2.length.trans v1.length
 have l2:=h4.length.trans v2.length
 by_cases hl : xs.length = ys.length
 ·refine SeqAt.eq_listAt (e:=fun j=>eqA (xs.getD j .non) (ys.getD j .non)) t1.isList t2.isList (by simp; omega) (by omega) (items_A I 8 (by rw [in1_units]; omega) p1 p2 h2 h4 v1 v2) ?_
  have e:=eqAs_all hl
  have : its.toArray.size = xs.length:=by simp; omega
  rw [this,<- e]
  exact ⟨.bl _,H,I,rfl,q⟩
 ·refine SeqAt.eq_list_lengthsAt t1.isList t2.isList (by simp; omega) (by omega) ⟨.bl _,H,I,rfl,?_⟩
  rw [eqAs_ne hl] at q
  exact q
theorem op_neLs' (hu : X.A.units + 20 < cLine) : OpR X (compareOp .NotEq) (rEqLs X.K true):=by
 intro pins s σ H x y v u Q I rx ry h
 obtain ⟨xs,ys,r1,r2,p1,p2,q⟩:=h
 simp only [Rep] at r1 r2
 obtain ⟨a,vs,rfl,h1,h2⟩:=r1
 obtain ⟨b,us,rfl,h3,h4⟩:=r2
 cases rx
 cases ry
 obtain ⟨its,v1,t1,_⟩:=I.list h1
 obtain ⟨its2,v2,t2,_⟩:=I.list h3
 have l1:=h2.length.trans v1.length
 have l2:=h4.length.trans v2.length
 by_cases hl : xs.length = ys.length
 ·refine SeqAt.RcNeAt.lists (e:=fun j=>eqA (xs.getD j .non) (ys.getD j .non)) t1.isList t2.isList (by simp; omega) (by omega) (items_A I 8 (by rw [in1_units]; omega) p1 p2 h2 h4 v1 v2) _ _ _ _ ?_
  have e:=eqAs_all hl
  have : its.toArray.size = xs.length:=by simp; omega
  rw [this,<- e]
  exact ⟨.bl _,H,I,rfl,q⟩
 ·refine SeqAt.RcNeAt.lists_lengths t1.isList t2.isList (by simp; omega) (by omega) _ _ _ _ ⟨.bl _,H,I,rfl,?_⟩
  rw [eqAs_ne hl] at q
  exact q
def eqSeq (neg : Bool) : D->D->Option D
 | .tup xs,.tup ys=>if xs.all (plainN 8) = true /\ ys.all (plainN 8) = true then some (.bl (if neg then !eqAs xs ys else eqAs xs ys)) else none
 | .lst xs,.lst ys=>if xs.all (plainN 8) = true /\ ys.all (plainN 8) = true then some (.bl (if neg then !eqAs xs ys else eqAs xs ys)) else none
 | _,_=>none
theorem od_eqSeq {f : Value->Value->Sem Value} {neg : Bool} (h1 : OpR X f (rEqT X.K neg)) (h2 : OpR X f (rEqLs X.K neg)) : OpD X f (eqSeq neg):=by
 refine ⟨_,h1.or h2,fun G H x y v u d Q sG rx ry e k=>?_⟩
 unfold eqSeq at e
 split at e
 ·split at e
  ·rename_i hc
   cases e
   exact .inl ⟨_,_,rx.all sG,ry.all sG,hc.1,hc.2,k _ G H (Grow.refl sG) (by simp [Rep])⟩
  ·cases e
 ·split at e
  ·rename_i hc
   cases e
   exact .inr ⟨_,_,rx.all sG,ry.all sG,hc.1,hc.2,k _ G H (Grow.refl sG) (by simp [Rep])⟩
  ·cases e
 ·cases e
def eqDic (ks : List Key) (xs : List D) (ls : List Key) (ys : List D) : Bool:=xs.length == ys.length && (ks.zip xs).all fun kv=>match valD ls ys kv.1 with | some y=>eqA kv.2 y | none=>false
theorem hits_D {pins : List (Addr × Obj)} {σ : St} {H : Hp} {s : Shared} (I : Inv X pins σ H s) {A : Around} (hu : A.units + 8 < cLine) {ls : List Key} {ys : List D} {ws : List V} {kb : List (Key × Value)} (hl : ls.length = ys.length) (r2 : RepL X.K H ys ws) (p2 : ys.all (plainN 8) = true) (vb : KV (ls.zip ws) kb) :
  ∀ {ks : List Key} {xs : List D} {vs : List V} {ka : List (Key × Value)},ks.length = xs.length->RepL X.K H xs vs->xs.all (plainN 8) = true->KV (ks.zip vs) ka->
   PySem.W.KeqHits A s kb ka ((ks.zip xs).all fun kv=>match valD ls ys kv.1 with | some y=>eqA kv.2 y | none=>false):=by
 intro ks
 induction ks with
 | nil=>
  intro xs vs ka _ _ _ va
  simp only [List.zip_nil_left] at va
  cases va
  exact .nil
 | cons k ks ih=>
  intro xs vs ka hl' r1 p1 va
  cases xs with
  | nil=>cases hl'
  | cons x xs=>
   simp only [RepL] at r1
   obtain ⟨v,us,rfl,q1,q2⟩:=r1
   rw [List.all_cons,Bool.and_eq_true] at p1
   simp only [List.zip_cons_cons] at va
   cases va with
   | @cons p q l1 l2 hp ht=>
    obtain ⟨k',u⟩:=q
    obtain ⟨e1,ru⟩:=hp
    have e1 : k = k':=e1
    subst e1
    have ru : RelV v u:=ru
    rw [List.zip_cons_cons,List.all_cons]
    dsimp only
    have hv:=valD_rep k hl r2
    have hw:=vb.val k
    cases ev : valD ls ys k with
    | none=>
     rw [hv.2 ev] at hw
     exact .miss hw.none_of
    | some y=>
     obtain ⟨w',e3,r3⟩:=hv.1 y ev
     rw [e3] at hw
     obtain ⟨u',e4,r4⟩:=hw.some_of
     have py : plainN 8 y = true:=by
      refine List.all_eq_true.mp p2 y ?_
      unfold valD at ev
      obtain ⟨kv,hkv,rfl⟩:=omE ev
      exact (List.of_mem_zip (List.mem_of_find?_eq_some hkv)).2
     exact .hit e4 (eqAt_A I 8 p1.1 py q1 r3 ru r4 hu) (ih (by simpa using hl') q2 p1.2 ht)
def rEqDc (K : PySem.W.Frag) (neg : Bool) : R2:=fun v u H Q=>∃ ks xs ls ys,Rep K H (.dic ks xs) v /\ Rep K H (.dic ls ys) u /\ xs.all (plainN 8) = true /\ ys.all (plainN 8) = true /\ Q (.bl (if neg then !eqDic ks xs ls ys else eqDic ks xs ls ys)) H
theorem dic_at {pins : List (Addr × Obj)} {σ : St} {H : Hp} {s : Shared} (I : Inv X pins σ H s) {ks : List Key} {xs : List D} {v : V} (h : Rep X.K H (.dic ks xs) v) : ∃ a vs ka,v = .ref a /\ (a == sysModules) = false /\ s.heap.DictOf (mixKind X.prog X.w) a ka /\ KV (ks.zip vs) ka /\ ks.length = xs.length /\ RepL X.K H xs vs /\ ka.length = xs.length:=by
 simp only [Rep] at h
 obtain ⟨a,vs,rfl,h1,h2,h3,h4⟩:=h
 obtain ⟨_,h5,ka,h6,h7⟩:=dk_rd I.hok h1
 refine ⟨a,vs,ka,rfl,h5,h7,h6,h2,h4,?_⟩
 have:=h6.length
 rw [List.length_zip] at this
 have:=h4.length
 omega
theorem op_eqDc (hu : X.A.units + 20 < cLine) : OpR X (compareOp .Eq) (rEqDc X.K false):=by
 intro pins s σ H x y v u Q I rx ry h
 obtain ⟨ks,xs,ls,ys,r1,r2,p1,p2,q⟩:=h
 obtain ⟨a,vs,ka,rfl,m1,d1,k1,l1,rl1,n1⟩:=dic_at I r1
 obtain ⟨b,us,kb,rfl,m2,d2,k2,l2,rl2,n2⟩:=dic_at I r2
 cases rx
 cases ry
 refine PySem.W.keq_eq m1 m2 d1 d2 (by omega) (fun _=>hits_D I (by rw [in1_units]; omega) l2 rl2 p2 k2 l1 rl1 p1 k1) ⟨.bl _,H,I,rfl,?_⟩
 rw [n1,n2]
 exact q
theorem op_neDc (hu : X.A.units + 20 < cLine) : OpR X (compareOp .NotEq) (rEqDc X.K true):=by
 intro pins s σ H x y v u Q I rx ry h
 obtain ⟨ks,xs,ls,ys,r1,r2,p1,p2,q⟩:=h
 obtain ⟨a,vs,ka,rfl,m1,d1,k1,l1,rl1,n1⟩:=dic_at I r1
 obtain ⟨b,us,kb,rfl,m2,d2,k2,l2,rl2,n2⟩:=dic_at I r2
 cases rx
 cases ry
 refine PySem.W.keq_ne m1 m2 d1 d2 (by omega) (fun _=>hits_D I (by rw [in1_units]; omega) l2 rl2 p2 k2 l1 rl1 p1 k1) ⟨.bl _,H,I,rfl,?_⟩
 rw [n1,n2]
 exact q
def eqDc (neg : Bool) : D->D->Option D
 | .dic ks xs,.dic ls ys=>if xs.all (plainN 8) = true /\ ys.all (plainN 8) = true then some (.bl (if neg then !eqDic ks xs ls ys else eqDic ks xs ls ys)) else none
 | _,_=>none
theorem od_eqDc {f : Value->Value->Sem Value} {neg : Bool} (h1 : OpR X f (rEqDc X.K neg)) : OpD X f (eqDc neg):=by
 refine ⟨_,h1,fun G H x y v u d Q sG rx ry e k=>?_⟩
 unfold eqDc at e
 split at e
 ·split at e
  ·rename_i hc
   cases e
   exact ⟨_,_,_,_,rx.all sG,ry.all sG,hc.1,hc.2,k _ G H (Grow.refl sG) (by simp [Rep])⟩
  ·cases e
 ·cases e
def eqO (neg : Bool) (x y : D) : Option D:=(sEq neg x y).or ((eqSeq neg x y).or (eqDc neg x y))
theorem od_eqO (hu : X.A.units + 20 < cLine) : OpD X (compareOp .Eq) (eqO false):=od_seq.or ((od_eqSeq (op_eqT hu) (op_eqLs' hu)).or (od_eqDc (op_eqDc hu)))
theorem od_neO (hu : X.A.units + 20 < cLine) : OpD X (compareOp .NotEq) (eqO true):=od_sne.or ((od_eqSeq (op_neT hu) (op_neLs' hu)).or (od_eqDc (op_neDc hu)))
end
section
variable {X : Cx} {e : Expr} {f : FE} {pos : Pos}
end
def closL (cells : List (Str × Addr)) : List (Str × NameKind)->List (Str × Addr)->List (Str × Addr)
 | [],acc=>acc
 | (n,k)::r,acc=>closL cells r (if (k == .free) = true then (n,(cells.lookup n).getD 0)::acc else acc)
theorem closureFor_eq {scope : Scope} {env : Env} (h : ∀ y ∈ scope.names,y.2 = .free->(env.cells.lookup y.1).isSome = true) : closureFor scope env = pure (closL env.cells scope.names []):=by
 simp only [closureFor]
 have key : ∀ (names : List (Str × NameKind)) (acc : List (Str × Addr)),(∀ y ∈ names,y.2 = .free->(env.cells.lookup y.1).isSome = true)->
   (forIn names acc fun (x : Str × NameKind) (r : List (Str × Addr))=>(if (x.snd == NameKind.free) = true then do
    let c <- cellOf env x.fst
    pure (ForInStep.yield ((x.fst,c)::r)) else pure (ForInStep.yield r) : Sem (ForInStep (List (Str × Addr))))) = pure (closL env.cells names acc):=by
  intro names
  induction names with
  | nil=>intro acc _; rfl
  | cons x r ih=>
   intro acc hh
   obtain ⟨n,k⟩:=x
   rw [List.forIn_cons]
   cases hk : (k == NameKind.free) with
   | false=>
    simp only [hk,Bool.false_eq_true,if_false,pure_bind,closL]
    exact ih acc fun y hy=>hh y (List.mem_cons_of_mem _ hy)
   | true=>
    have hs:=hh (n,k) List.mem_cons_self (by simpa using hk)
    obtain ⟨c,ec⟩:=Option.isSome_iff_exists.mp hs
    have ec : env.cells.lookup n = some c:=ec
    have e1 : cellOf env n = pure c:=by unfold cellOf; rw [ec]
    simp only [hk,if_true,e1,pure_bind,closL,ec,Option.getD_some]
    exact ih _ fun y hy=>hh y (List.mem_cons_of_mem _ hy)
 have:=key scope.names [] h
 first
  | exact this
  | (rw [this]; rfl)
  | (simp only [this,pure_bind])
theorem closL_mem {cells : List (Str × Addr)} : ∀ (names : List (Str × NameKind)) (acc : List (Str × Addr)) (p : Str × Addr),p ∈ closL cells names acc->p ∈ acc \/ ((p.1,NameKind.free) ∈ names /\ p.2 = (cells.lookup p.1).getD 0)
 | [],acc,p,h=>.inl h
 | (n,k)::r,acc,p,h=>by
  unfold closL at h
  rcases closL_mem r _ p h with h | ⟨h,e⟩
  ·cases hk : (k == NameKind.free) with
   | false=>rw [hk] at h; simp only [Bool.false_eq_true,if_false] at h; exact .inl h
   | true=>
    rw [hk] at h
    simp only [if_true,List.mem_cons] at h
    rcases h with h | h
    ·subst h
     have : k = NameKind.free:=by simpa using hk
     subst this
     exact .inr ⟨List.mem_cons_self,rfl⟩
    ·exact .inl h
  ·exact .inr ⟨List.mem_cons_of_mem _ h,e⟩
theorem closL_has {cells : List (Str × Addr)} : ∀ (names : List (Str × NameKind)) (acc : List (Str × Addr)) (x : Str),((x,NameKind.free) ∈ names \/ ∃ c,(x,c) ∈ acc)->∃ c,(x,c) ∈ closL cells names acc
 | [],acc,x,h=>h.elim (fun z=>by cases z) id
 | (n,k)::r,acc,x,h=>by
  unfold closL
  refine closL_has r _ x ?_
  rcases h with h | ⟨c,h⟩
  ·rcases List.mem_cons.mp h with h | h
   ·cases h
    exact .inr ⟨(cells.lookup n).getD 0,by simp⟩
   ·exact .inl h
  ·refine .inr ⟨c,?_⟩
   split
   ·exact List.mem_cons_of_mem _ h
   ·exact h
theorem lookup_of_mem {l : List (Str × Addr)} {x : Str} {c : Addr} (h : (x,c) ∈ l) : ∃ c',l.lookup x = some c':=by
 induction l with
 | nil=>cases h
 | cons p l ih=>
  obtain ⟨y,d⟩:=p
  rw [List.lookup_cons]
  cases e : x == y with
  | true=>exact ⟨d,rfl⟩
  | false=>
   rcases List.mem_cons.mp h with q | q
   ·cases q; simp at e
   ·exact ih q
theorem compOkF {X : Cx} {N : List Str} {nl : Nat} {js : List Nat} {scope : Scope} {n0 : Nat} (hce : X.env.cells = cellsFrom n0 X.env.scope.names []) (hk : scope.kind = .function) (hn : ∀ y ∈ scope.names,y.2 ≠ .cell)
  {sn : List (Str × NameKind)} (hsn : X.env.scope.names = sn) (hf : ∀ y ∈ scope.names,y.2 = .free->sn.lookup y.1 = some .cell) (hl : ∀ y ∈ scope.names,y.2 = .local->scope.names.lookup y.1 = some .local) (hN : N.length = nl + js.length)
  (free : ∀ k j x,js[k]? = some j->N[nl + k]? = some x->X.N[j]? = some x /\ (X.env.kindOf x = some .cell \/ X.env.kindOf x = some .free) /\ Vis X.env.scope x /\ ((relabel scope X.env).names.lookup x = some .cell \/ (relabel scope X.env).names.lookup x = some .free)) :
  CompOk X N nl js scope (closL X.env.cells scope.names []) where
 clos:=closureFor_eq fun y hy e=>by
  obtain ⟨c,ec⟩:=cell_has (n:=n0) (by rw [hsn]; exact hf y hy e)
  rw [hce,ec]; rfl
 nocell:=hn
 kind:=hk
 names:=hl
 cells:=fun x c e=>by
  rcases closL_mem _ _ _ (PySem.mem_of_lookup e) with z | ⟨z,q⟩
  ·cases z
  ·obtain ⟨c',ec⟩:=cell_has (n:=n0) (by rw [hsn]; exact hf _ z rfl)
   have ec : X.env.cells.lookup x = some c':=by rw [hce]; exact ec
   have q : c = (X.env.cells.lookup x).getD 0:=q
   rw [ec] at q
   rw [ec,q]; rfl
 has:=fun x h=>by
  have key : ∀ k,(relabel scope X.env).names.lookup x = some k->k = .cell \/ k = .free->(x,NameKind.free) ∈ scope.names:=fun k e hk=>by
   have hm:=PySem.mem_of_lookup e
   unfold relabel at hm
   obtain ⟨⟨n,k0⟩,h1,h2⟩:=List.mem_map.mp hm
   dsimp only at h2
   cases hc : (k0 == NameKind.free && X.env.scope.kind == .function && X.env.kindOf n == some .cell) with
   | true=>
    rw [hc] at h2
    simp only [if_true] at h2
    have e2 : n = x:=congrArg Prod.fst h2
    subst e2
    have : k0 = NameKind.free:=by
     rw [Bool.and_eq_true,Bool.and_eq_true] at hc
     simpa using hc.1.1
    rw [<- this]; exact h1
   | false=>
    rw [hc] at h2
    have e2 : k0 = k:=congrArg Prod.snd h2
    have e3 : n = x:=congrArg Prod.fst h2
    subst e2 e3
    rcases hk with z | z
    ·exact absurd z (hn _ h1)
    ·rw [<- z]; exact h1
  have hx : (x,NameKind.free) ∈ scope.names:=by
   rcases h with h | h
   ·exact key _ h (.inl rfl)
   ·exact key _ h (.inr rfl)
  obtain ⟨c,hc⟩:=closL_has (cells:=X.env.cells) scope.names [] x (.inl hx)
  exact lookup_of_mem hc
 len:=hN
 free:=free
section
variable {X : Cx}
theorem repLB_two {K : PySem.W.Frag} {G H : Hp} {d e : D} {vs : List V} (r : RepLB K G H [d,e] vs) : ∃ v u,vs = [v,u] /\ RepB K G H d v /\ RepB K G H e u:=by
 obtain ⟨v,us,rfl,r1,u,us,rfl,r2,r3⟩:=r
 simp only [RepLB] at r3
 subst r3
 exact ⟨v,u,rfl,r1,r2⟩
def intD : List D->Option D | [.int i]=>some (.int i) | [.bl b]=>some (.int (if b then 1 else 0)) | _=>none
theorem cd_int : CallD X (.type "int") intD:=by
 refine ⟨_,call_int1,fun G H ds vs d Q sG r e k=>?_⟩
 unfold intD at e
 split at e
 ·cases e
  obtain ⟨v,rfl,r1⟩:=repLB_one r
  have r1:=r1.flat rfl
  simp only [Rep] at r1
  subst r1
  exact .inl ⟨_,rfl,k _ G H (Grow.refl sG) (by simp [Rep])⟩
 ·cases e
  obtain ⟨v,rfl,r1⟩:=repLB_one r
  have r1:=r1.flat rfl
  simp only [Rep] at r1
  subst r1
  exact .inr ⟨_,rfl,k _ G H (Grow.refl sG) (by simp [Rep])⟩
 ·cases e
def maxD : List D->Option D | [.int i,.int j]=>some (.int (if j > i then j else i)) | _=>none
def minD : List D->Option D | [.int i,.int j]=>some (.int (if j < i then j else i)) | _=>none
theorem cd_max (hc : X.calm = true) : CallD X (.builtin "max") maxD:=by
 refine ⟨_,call_max2 hc,fun G H ds vs d Q sG r e k=>?_⟩
 unfold maxD at e
 split at e
 ·cases e
  obtain ⟨v,u,rfl,r1,r2⟩:=repLB_two r
  have r1:=r1.flat rfl
  have r2:=r2.flat rfl
  simp only [Rep] at r1 r2
  subst r1 r2
  exact ⟨_,_,rfl,k _ G H (Grow.refl sG) (by simp [Rep])⟩
 ·cases e
theorem cd_min (hc : X.calm = true) : CallD X (.builtin "min") minD:=by
 refine ⟨_,call_min2 hc,fun G H ds vs d Q sG r e k=>?_⟩
 unfold minD at e
 split at e
 ·cases e
  obtain ⟨v,u,rfl,r1,r2⟩:=repLB_two r
  have r1:=r1.flat rfl
  have r2:=r2.flat rfl
  simp only [Rep] at r1 r2
  subst r1 r2
  exact ⟨_,_,rfl,k _ G H (Grow.refl sG) (by simp [Rep])⟩
 ·cases e
end
section
variable {X : Cx} {pins : List (Addr × Obj)} {σ : St} {H : Hp} {s : Shared} {a : Addr} {kvs : List (Key × V)} {k : Key} {d : V} {u r : Value} {A : Around} {E : Value->Shared->Prop}
end
section
variable {X : Cx} {o e f : Expr} {apos cpos : Pos} {td ty tx : TE}
end
abbrev FX:=En->Option (D × En)
def GivesX (K : PySem.W.Frag) (t : TE) (f : FX) : Prop:=∀ (B G H : Hp) (δ : En) (σ : St) (d : D) (δ' : En) (Q : VK),Same G H->Same B H->RepS K B G H δ σ->f δ = some (d,δ')->
 (∀ v G' H',Stp B G G' H'->RepS K B G' H' δ' σ->Rep K G' d v->Q v H')->t σ H Q
def PX (X : Cx) (e : Expr) (f : FX) : Prop:=∃ t,PE X e t /\ GivesX X.K t f
section
variable {X : Cx} {e a b : Expr} {pos : Pos}
@[simp] def xD (f : FE) : FX:=fun δ=>(f δ).map fun d=>(d,δ)
theorem PD.px {f : FE} (h : PD X e f) : PX X e (xD f):=by
 obtain ⟨t,pt,k⟩:=h
 refine ⟨t,pt,fun B G H δ σ d δ' Q sG sB rs ef q=>?_⟩
 unfold xD at ef
 obtain ⟨d',e1,e2⟩:=omE ef
 cases e2
 exact k B G H δ σ _ Q sG rs e1 fun v G' H' g r=>q v G' H' (g.stp sB) (rs.grow g) r
end
end L2
namespace HT
open PySem PySem.Spec PyProof.Rows
variable {prog : Program} {w : World} {A : Around} {E : Value->Shared->Prop} {s : Shared}
theorem getItem_tuple_all {t sl : Addr} {items : Array Value} {vl vu : Value} {lo hi : Option Int} {Q : Value->Shared->Prop} (ht : IsTup s.heap t items) (hs : s.heap.IsSliceOf sl vl vu .none) (pl : IsPart vl lo) (pu : IsPart vu hi)
  (hw : sIx items.size 0 lo = 0 /\ sIx items.size items.size hi = items.size) (h : Q (.ref t) s) : wpAny (model prog w) A (getItem (.ref t) (.ref sl)) Q E s:=by
 obtain ⟨os,hos,hcs,hds⟩:=id hs
 have hTs : s.TypeIs (.ref sl) "slice":=⟨os,hos,hcs⟩
 unfold getItem
 try with_reducible refine wpAny_holding ?_
 first | refine wpAny_bind (wpAny_pure ?_) | skip
 refine wpAny_bind (wpAny_sequenceKey ht.typeIs (by decide) ?_)
 refine wpAny_bind (wpAny_callSpecial?_slot (name:=Str.ofString "__getitem__") ht.typeIs PyProof.Rows.slot_tuple_getitem
  (wpAny_call_entry PyProof.Rows.slot_tuple_getitem ht.typeIs entry_tuple_getitem ?_ (args_tuple_getitem _ _)))
 show wpAny _ _ (Builtin.Tuple.tupleItemsOf (.ref t) >>= _) _ _ s
 refine wpAny_bind (tupleItemsOf_ ht ?_)
 refine wpAny_bind (wpAny_typeOf hTs ?_)
 rw [if_pos (by decide)]
 refine wpAny_bind (sliceApplied_gen hs pl pu ?_)
 have hno : (((sIx items.size 0 lo : Nat) : Int) == 0 && (1 : Int) == 1 && (sIx items.size items.size hi - sIx items.size 0 lo) == items.size) = true:=by
  rw [hw.1,hw.2]; simp
 show wpAny _ _ (if (((sIx items.size 0 lo : Nat) : Int) == 0 && (1 : Int) == 1 && (sIx items.size items.size hi - sIx items.size 0 lo) == items.size) = true then _ else _) _ _ s
 rw [if_pos hno]
 refine wpAny_bind ?_
 unfold Builtin.Tuple.tupleIsExact
 refine wpAny_bind (wpAny_typeOf ht.typeIs (wpAny_pure ?_))
 rw [if_pos (by decide)]
 refine wpAny_bind (wpAny_rule ?_)
 first
  | exact wpAny_pure ⟨_,rfl,wpAny_pure h⟩
  | exact wpAny_bind (wpAny_pure ⟨_,rfl,wpAny_pure h⟩)
  | exact wpAny_pure (wpAny_pure ⟨_,rfl,wpAny_pure h⟩)
  | exact wpAny_pure (wpAny_pure h)
end HT
namespace L2
open PySem PySem.Spec PyProof.Rows
section
variable {X : Cx}
def rSlTA (K : PySem.W.Frag) : V->Option Int->Option Int->Hp->VK->Prop:=fun x lo hi H Q=>∃ a xs,x = .ref a /\ SqT K H a xs /\
 (HT.sIx xs.length 0 lo = 0 /\ HT.sIx xs.length xs.length hi = xs.length) /\ Q (.ref a) H
theorem sl_tupA : SlR X (rSlTA X.K):=by
 intro pins s σ H x v vl vu lo hi sl Q I rx hs pl pu h
 obtain ⟨a,xs,rfl,hx,hw,q⟩:=h
 cases rx
 obtain ⟨its,r,ht,hz⟩:=I.tuple hx
 have hlen : its.toArray.size = xs.length:=by rw [List.size_toArray]; exact r.length.symm
 refine ⟨"tuple",_,PyProof.Rows.slot_tuple_getitem.lookup,ht.typeIs,?_⟩
 exact HT.getItem_tuple_all ht hs pl pu (by rw [hlen]; exact hw) ⟨.ref a,H,I,rfl,q⟩
def slA (x : D) (lo hi : Option Int) : Option Rs:=match x with
 | .lst ds=>some (.fr (.lst (cutD ds lo hi)))
 | .tup ds=>some (.sh (.tup (cutD ds lo hi)))
 | _=>none
theorem cutD_all {ds : List D} {lo hi : Option Int} (h : HT.sIx ds.length 0 lo = 0 /\ HT.sIx ds.length ds.length hi = ds.length) : cutD ds lo hi = ds:=by
 unfold cutD
 rw [h.1,h.2]
 simp
@[simp] def fSlA (f : FE) (l h : En->Option (Option Int)) : FR:=fun δ=>(f δ).bind fun x=>(l δ).bind fun lo=>(h δ).bind fun hi=>slA x lo hi
theorem pr_slA {e : Expr} {f : FE} {lo hi : Option Expr} {fl fh : En->Option (Option Int)} {pos p2 : Pos} (he : PB X e f) (hl : POD X lo fl) (hh : POD X hi fh) : PR X (.Subscript e (.Slice lo hi none p2) pos) (fSlA f fl fh):=by
 obtain ⟨t,pt,k1⟩:=he
 obtain ⟨tl,pl,kl⟩:=hl
 obtain ⟨th,ph,kh⟩:=hh
 refine ⟨_,pe_slice ((sl_list.or sl_tup).or sl_tupA) pt pl ph,fun B G H δ σ d Q sG rs e k=>?_⟩
 unfold fSlA at e
 obtain ⟨x,e1,e⟩:=obE e
 obtain ⟨l,e2,e⟩:=obE e
 obtain ⟨h,e3,e⟩:=obE e
 refine k1 B G H δ σ x _ sG rs e1 fun v G1 H1 g1 r1=>kl B G1 H1 δ σ l _ g1.s (rs.grow g1) e2 fun G2 H2 g2=>kh B G2 H2 δ σ h _ g2.s (rs.grow (g1.trans g2)) e3 fun G3 H3 g3=>?_
 have g13:=(g1.trans g2).trans g3
 have r3:=r1.grow (g2.trans g3)
 unfold slA at e
 split at e
 ·cases e
  obtain ⟨a,vs,rfl,q,rl⟩:=r3.lst g3.s
  exact .inl (.inl ⟨a,vs,rfl,q,fun p hp=>k p _ G3 H3 g13 hp True.intro (rl.cut l h)⟩)
 ·rename_i ds _ _
  cases e
  have r3:=r3.tup
  have r4:=r3
  simp only [Rep] at r4
  obtain ⟨a,vs,rfl,q,rl⟩:=r4
  by_cases hw : HT.sIx ds.length 0 l = 0 /\ HT.sIx ds.length ds.length h = ds.length
  ·rw [cutD_all hw] at k
   exact .inr ⟨a,vs,rfl,g3.s.sqT q,by rw [<- rl.length]; exact hw,k _ _ _ g13 r3⟩
  ·exact .inl (.inr ⟨a,vs,rfl,g3.s.sqT q,by rw [<- rl.length]; exact hw,fun p hp=>k _ _ _ (g13.trans (Grow.laid g3.s _ hp)) (rep_tup (g3.s.free hp) (rl.cut l h))⟩)
 ·cases e
def rJoin (K : PySem.W.Frag) : V->List V->Hp->VK->Prop:=fun x vs H Q=>∃ z a ys,x = .str z /\ vs = [.ref a] /\ SqL K H a (ys.map V.str) /\ (ys.map fun y=>y.length).sum + ys.length * z.length <= 16777216 /\ Q (.str (Txt.join z ys)) H
theorem strsAre_of : ∀ {ys : List Str} {us : List Value},Vals (ys.map V.str) us->StrsAre us ys
 | [],_,h=>by cases h; exact .nil
 | y::ys,_,h=>by
  cases h with
  | cons r rr=>
   obtain ⟨t,rfl⟩:=r
   exact .cons y t (strsAre_of rr)
theorem mt_join : MtR X "str.join" (rJoin X.K):=by
 intro pins s σ H x vs v us Q I rx rv h
 obtain ⟨z,a,ys,rfl,rfl,hq,hl,q⟩:=h
 obtain ⟨t,rfl⟩:=rx
 obtain ⟨u,rfl,ru⟩:=rv.one
 cases ru
 obtain ⟨its,r,p,hz⟩:=I.list hq
 refine join_list p.isList (by simpa using strsAre_of r) hl fun t' k=>?_
 exact ⟨.str (Txt.join z ys),H,I.tok _,⟨t',rfl⟩,q⟩
def strsD : List D->Option (List Str)
 | []=>some []
 | .str x::r=>(strsD r).map (x::·)
 | _=>none
theorem strsD_rep {K : PySem.W.Frag} {G : Hp} : ∀ {ds : List D} {ys : List Str} {vs : List V},strsD ds = some ys->RepL K G ds vs->vs = ys.map V.str
 | [],_,_,e,r=>by cases e; simp only [RepL] at r; exact r
 | d::ds,ys,vs,e,r=>by
  cases d with
  | str x=>
   simp only [strsD] at e
   obtain ⟨zs,e1,rfl⟩:=omE e
   simp only [RepL] at r
   obtain ⟨v,us,rfl,r1,r2⟩:=r
   simp only [Rep] at r1
   subst r1
   rw [strsD_rep e1 r2]; rfl
  | non=>cases e
  | bl b=>cases e
  | int b=>cases e
  | tup b=>cases e
  | lst b=>cases e
  | dic b c=>cases e
  | obj _ _ _=>cases e
def joinD : D->D->Option D
 | .str z,.lst ds=>(strsD ds).bind fun ys=>if (ys.map fun y=>y.length).sum + ys.length * z.length <= 16777216 then some (.str (Txt.join z ys)) else none
 | _,_=>none
theorem pd_join {o a : Expr} {fo fa : FE} {p1 p2 : Pos} (ho : PD X o fo) (ha : PB X a fa)
  (hb : ∀ {to ta : TE},PE X o to->PE X a ta->PE X (.Call (.Attribute o "join" p1) [a] [] p2) (tBM X.K "str" (rJoin X.K) to (tCons ta tNil)):=by
   intro to ta hx ht; exact pe_bm PySem.F.plainAttrs_str PySem.F.slot_str_join PySem.F.type_str_join mt_join hx (pa_cons ht pa_nil)) :
  PD X (.Call (.Attribute o "join" p1) [a] [] p2) (f2 joinD fo fa):=by
 obtain ⟨t1,q1,k1⟩:=ho
 obtain ⟨t2,q2,k2⟩:=ha
 refine ⟨_,hb q1 q2,fun B G H δ σ d Q sG rs ef k=>?_⟩
 unfold f2 at ef
 obtain ⟨x,e1,ef⟩:=obE ef
 obtain ⟨y,e2,ef⟩:=obE ef
 unfold joinD at ef
 split at ef
 ·rename_i z ds _
  obtain ⟨ys,e3,ef⟩:=obE ef
  split at ef
  ·rename_i hl
   cases ef
   refine k1 B G H δ σ _ _ sG rs e1 fun v G1 H1 g1 r1=>?_
   simp only [Rep] at r1
   subst r1
   refine ⟨rfl,k2 B G1 H1 δ σ _ _ g1.s (rs.grow g1) e2 fun u G2 H2 g2 r2=>?_⟩
   obtain ⟨a,vs,rfl,hq,rl⟩:=r2.lst g2.s
   obtain rfl:=strsD_rep e3 rl
   exact ⟨z,a,ys,rfl,rfl,hq,hl,k _ G2 H2 (g1.trans g2) (by simp [Rep])⟩
  ·cases ef
 ·cases ef
@[simp] def oRng2 (f g : FE) : En->Option (List D):=fun δ=>(f δ).bind fun x=>(g δ).bind fun y=>match x,y with
 | .int i,.int j=>if -(2 ^ 62) <= i /\ i < 2 ^ 62 /\ -(2 ^ 62) <= j /\ j < 2 ^ 62 then some (rngD i (j - i).toNat) else none
 | _,_=>none
theorem pid_range2 {tg a b : Expr} {f g : FE} {p pos : Pos} (hm : X.mg "range" = none) (ha : PD X a f) (hb : PD X b g) (hg : Gl X "range":=by rfl) (hs : starEach [a,b] X.env = [(false,eval a X.env),(false,eval b X.env)]:=by rfl) (hs2 : starEach [b] X.env = [(false,eval b X.env)]:=by rfl) (hs3 : starEach [] X.env = []:=by rfl) : PID X tg (.Call (.Name "range" p) [a,b] [] pos) (oRng2 f g):=by
 obtain ⟨t1,q1,k1⟩:=ha
 obtain ⟨t2,q2,k2⟩:=hb
 refine ⟨_,pi_range2 hg hm (pa_cons q1 (pa_cons q2 pa_nil (by rw [hs2,hs3])) (by rw [hs,hs2])) hs hs2,fun B G H δ σ xs R sG rs e q=>?_⟩
 unfold oRng2 at e
 obtain ⟨x,e1,e⟩:=obE e
 obtain ⟨y,e2,e⟩:=obE e
 split at e
 ·rename_i i j _
  split at e
  ·rename_i hj
   cases e
   refine k1 B G H δ σ _ _ sG rs e1 fun v G1 H1 g1 r1=>k2 B G1 H1 δ σ _ _ g1.s (rs.grow g1) e2 fun u G2 H2 g2 r2=>?_
   simp only [Rep] at r1 r2
   subst r1 r2
   refine ⟨i,j,rfl,hj,q _ G2 H2 (g1.trans g2) ⟨fun m d G' H' ed a1 b1=>?_,fun G' H' a1 b1=>?_⟩⟩
   ·unfold rngD at ed
    rw [List.getElem?_map] at ed
    obtain ⟨c,ec,rfl⟩:=omE ed
    obtain ⟨hi,hc⟩:=List.getElem?_eq_some_iff.mp ec
    rw [List.length_range] at hi
    rw [List.getElem_range] at hc
    subst hc
    refine ⟨hi,fun x' H2 y=>⟨y.1,?_⟩⟩
    rw [y.2]
    simp [Rep]
   ·show (j - i).toNat <= (rngD i (j - i).toNat).length
    simp [rngD]
  ·cases e
 ·cases e
end
section
variable {prog : Program} {w : World} {A : Around} {E : Value->Shared->Prop} {s : Shared}
end
section
variable {prog : Program} {w : World} {A : Around} {E : Value->Shared->Prop} {s : Shared}
end
section
variable {prog : Program} {w : World} {A : Around} {E : Value->Shared->Prop} {s : Shared}
end
section
variable {prog : Program} {w : World} {A : Around} {E : Value->Shared->Prop} {s : Shared}
end
section
variable {prog : Program} {w : World} {A : Around} {E : Value->Shared->Prop} {s : Shared}
end
section
variable {X : Cx} {pins : List (Addr × Obj)} {σ : List (Option V)} {H H' : Hp} {s : Shared} {h' : Heap}
end
section
variable {X : Cx} {pins : List (Addr × Obj)} {σ : St} {H : Hp} {s : Shared}
end
section
variable {X : Cx}
end
section
variable {X : Cx} {e : Expr} {es : List Expr} {pos p : Pos}
end
theorem givesS_set {X : Cx} {t : TE} {f : FR} (i : Nat) (k : GivesR X.K t f) : GivesS X (tAsg t (gName i)) (sSet i (fPub f)):=fun B G H δ σ o D sG sB rs e w=>by
 unfold sSet fPub at e
 obtain ⟨d,e1,rfl⟩:=omE e
 obtain ⟨r,e2,rfl⟩:=omE e1
 exact k B G H δ σ r _ sG rs e2 (WantR.of fun v G' H' g r=>w _ G' H' (g.stp sB) ((rs.grow g).set i r))
section
variable {X : Cx}
theorem ps_setcomp' {N : List Str} {nl i n : Nat} {y : Str} {js : List Nat} {scope : Scope} {cl : List (Str × Addr)} {elt iter : Expr} {ifs : List Expr} {x : Str} {px pos spos py : Pos} {it : En->Option (List D)} {c : En->Option Bool} {g : FE}
  (hN : X.N.Nodup) (hi' : X.N[n]? = some y) (hy : Loc X.env.scope y) (hyl : X.env.scope.names.lookup y = some .local)
  (hc : X.calm = true) (ok : CompOk X N nl js scope cl) (hi : PID X (.Name x px) iter it) (hin : i < nl) (hNd : N.Nodup) (hix : N[i]? = some x) (hx : scope.names.lookup x = some .local)
  (hjs : js.Nodup) (ht : ∀ C s₀ H₀ ex,PIfsD (compCx X N scope cl C s₀ H₀ ex) ifs c) (he : ∀ C s₀ H₀ ex,PD (compCx X N scope cl C s₀ H₀ ex) elt g)
  (hsw : swapsWith (.ListComp elt [⟨.Name x px,iter,ifs,0⟩] scope pos) (some (.Name y py)) spos.line X.env = pure true)
  (hs : ∀ x,foldedSetIterable iter X.env x = pure x) :
  ∃ t,PS X (.Assign [.Name y py] (.ListComp elt [⟨.Name x px,iter,ifs,0⟩] scope pos) spos) (tAsg t (gName n)) /\ GivesR X.K t (fComp nl js i it c g):=by
 obtain ⟨wi,pw,kw⟩:=hi
 exact ⟨_,ps_setcomp (ti:=ttOf X.K c) (te:=tOf X.K g) hN hi' hy hyl hc ok pw (keeps_name hin) (fun C s₀ H₀ ex=>pg_name hNd hix (.inl (lookup_relabel_local hx)) (.inr (lookup_relabel_local hx))) (fun C s₀ H₀ ex=>(ht C s₀ H₀ ex).canon) (fun C s₀ H₀ ex=>(he C s₀ H₀ ex).canon) hsw hs,
  gives_comp (ti:=ttOf X.K c) (te:=tOf X.K g) kw (fun B G H δ σ b Q sG rs e k=>⟨B,G,δ,b,sG,rs,e,k⟩) gives_tOf hjs⟩
theorem psd_setC {N : List Str} {nl i : Nat} (n : Nat) {y : Str} {js : List Nat} {scope : Scope} {cl : List (Str × Addr)} {elt iter : Expr} {ifs : List Expr} {x : Str} {px pos spos py : Pos} {it : En->Option (List D)} {c : En->Option Bool} {g : FE}
  (hN : X.N.Nodup) (hc : X.calm = true) (ok : CompOk X N nl js scope cl) (hi : PID X (.Name x px) iter it) (hin : i < nl) (hNd : N.Nodup) (hix : N[i]? = some x) (hx : scope.names.lookup x = some .local)
  (hjs : js.Nodup) (ht : ∀ C s₀ H₀ ex,PIfsD (compCx X N scope cl C s₀ H₀ ex) ifs c) (he : ∀ C s₀ H₀ ex,PD (compCx X N scope cl C s₀ H₀ ex) elt g)
  (hi' : X.N[n]? = some y:=by rfl) (hy : Loc X.env.scope y:=by first | exact Or.inl rfl | exact Or.inr rfl) (hyl : X.env.scope.names.lookup y = some .local:=by rfl)
  (hsw : swapsWith (.ListComp elt [⟨.Name x px,iter,ifs,0⟩] scope pos) (some (.Name y py)) spos.line X.env = pure true:=by rfl)
  (hs : ∀ x,foldedSetIterable iter X.env x = pure x:=by intro _; rfl) :
  PSD X (.Assign [.Name y py] (.ListComp elt [⟨.Name x px,iter,ifs,0⟩] scope pos) spos) (sSet n (fPub (fComp nl js i it c g))):=by
 obtain ⟨t,p,k⟩:=ps_setcomp' hN hi' hy hyl hc ok hi hin hNd hix hx hjs ht he hsw hs
 exact ⟨_,p,givesS_set n k⟩
end
inductive Ag where | v (d : D) | o (m : Mo)
def mkS : List Ag->List Addr->List Sl
 | .v d::r,_::as=>.sh d::mkS r as
 | .o m::r,a::as=>.pv m (some a)::mkS r as
 | _,_=>[]
def Fits : List Ag->List Addr->List (Option Mo)->List (Option Sl)->Prop
 | [],_,ms,_=>ms = []
 | .v _::r,as,ms,res=>∃ a as' ms' x res',as = a::as' /\ ms = none::ms' /\ res = x::res' /\ Fits r as' ms' res'
 | .o _::r,as,ms,res=>∃ a as' m' ms' res',as = a::as' /\ ms = some m'::ms' /\ res = some (.pv m' (some a))::res' /\ Fits r as' ms' res'
def MutS (M : List Sl->Option (Rs × En)) (ags : List Ag) (r : Rs) (ms : List (Option Mo)) : Prop:=∀ as : List Addr,as.length = ags.length->∃ res,M (mkS ags as) = some (r,res) /\ Fits ags as ms res
open Classical in
noncomputable def outM (M : List Sl->Option (Rs × En)) (ags : List Ag) : Option (Rs × List (Option Mo)):=if h : ∃ p : Rs × List (Option Mo),MutS M ags p.1 p.2 then some h.choose else none
def startS (N : List Str) (xs : List Sl) : En:=xs.map some++List.replicate (N.length - xs.length) none
def runM (N : List Str) (n : Nat) (fb : FS) : List Sl->Option (Rs × En):=fun xs=>if xs.length = n then (match fb (startS N xs) with | some (.rt r δ)=>some (r,δ.take n) | some (.nx δ)=>some (.sh .non,δ.take n) | _=>none) else none
theorem RepS.more {K : PySem.W.Frag} {B G H : Hp} {δ : En} {σ : St} (r : RepS K B G H δ σ) (k : Nat) : RepS K B G H (δ++List.replicate k none) (σ++List.replicate k none):=by
 have key : ∀ (i : Nat) (x : Sl),(δ++List.replicate k none)[i]? = some (some x)->δ[i]? = some (some x) /\ i < σ.length:=fun i x e=>by
  by_cases hi : i < δ.length
  ·rw [List.getElem?_append_left hi] at e; exact ⟨e,by rw [<- r.len]; exact hi⟩
  ·rw [List.getElem?_append_right (by omega),List.getElem?_replicate] at e
   split at e <;> cases e
 refine ⟨by simp [r.len],fun i x e=>?_,fun i j x y o o' hij e1 e2=>?_⟩
 ·obtain ⟨e1,hl⟩:=key i x e
  obtain ⟨v,h1,h2⟩:=r.at_ i x e1
  exact ⟨v,by rw [List.getElem?_append_left hl]; exact h1,h2⟩
 ·obtain ⟨f1,l1⟩:=key i _ e1
  obtain ⟨f2,l2⟩:=key j _ e2
  rw [List.getElem?_append_left l1,List.getElem?_append_left l2]
  exact r.ap i j x y o o' hij f1 f2
section
variable {P : Program} {w : World} {K : PySem.W.Frag} {mg : Str->Option Value} {base : Heap}
end
inductive Ar where | own (j : Nat) | val (f : FE)
def agOf : List Ar->En->Option (List Ag)
 | [],_=>some []
 | .own j::r,δ=>match δ[j]? with | some (some (.pv m _))=>(agOf r δ).map (.o m::·) | _=>none
 | .val f::r,δ=>(f δ).bind fun d=>(agOf r δ).map (.v d::·)
def ownsOf : List Ar->List Nat
 | []=>[]
 | .own j::r=>j::ownsOf r
 | .val _::r=>ownsOf r
def ArgRep (K : PySem.W.Frag) (G : Hp) (δ : En) (σ : St) : List Ar->List Ag->List V->Prop
 | [],ags,vs=>ags = [] /\ vs = []
 | .own j::r,ags,vs=>∃ m o ags' v vs',ags = .o m::ags' /\ vs = v::vs' /\ δ[j]? = some (some (.pv m o)) /\ σ[j]? = some (some v) /\ ArgRep K G δ σ r ags' vs'
 | .val _::r,ags,vs=>∃ d ags' v vs',ags = .v d::ags' /\ vs = v::vs' /\ Rep K G d v /\ ArgRep K G δ σ r ags' vs'
def PAM (X : Cx) (es : List Expr) (ars : List Ar) : Prop:=∃ t,PA X es t /\ ∀ (B G H : Hp) (δ : En) (σ : St) (ags : List Ag) (Q : List V->Hp->Prop),Same G H->RepS X.K B G H δ σ->agOf ars δ = some ags->
 (∀ vs G' H',Grow G H G' H'->ArgRep X.K G' δ σ ars ags vs->Q vs H')->t σ H Q
section
variable {X : Cx} {e : Expr} {es : List Expr} {f : FE} {ars : List Ar} {pos p : Pos}
theorem pam_nil : PAM X [] []:=⟨_,pa_nil,fun B G H δ σ ags Q sG rs ef k=>by cases ef; exact k _ G H (Grow.refl sG) ⟨rfl,rfl⟩⟩
theorem pam_val (ha : PD X e f) (hr : PAM X es ars) (hs : starEach (e::es) X.env = (false,eval e X.env)::starEach es X.env:=by rfl) : PAM X (e::es) (.val f::ars):=by
 obtain ⟨ta,pa,ka⟩:=ha
 obtain ⟨tr,pr,kr⟩:=hr
 refine ⟨_,pa_cons pa pr hs,fun B G H δ σ ds Q sG rs ef k=>?_⟩
 unfold agOf at ef
 obtain ⟨d,e1,ef⟩:=obE ef
 obtain ⟨ags',e2,rfl⟩:=omE ef
 exact ka B G H δ σ d _ sG rs e1 fun v G1 H1 g1 r1=>kr B G1 H1 δ σ ags' _ g1.s (rs.grow g1) e2 fun vs G2 H2 g2 r2=>k _ G2 H2 (g1.trans g2) ⟨d,ags',v,vs,rfl,rfl,r1.mono g2.g,r2⟩
end
def AArg (K : PySem.W.Frag) (G : Hp) (δ : En) (σ : St) : List Ar->List Ag->List V->List Addr->Prop
 | [],ags,vs,as=>ags = [] /\ vs = [] /\ as = []
 | .own j::r,ags,vs,as=>∃ m o ags' vs' a as',ags = .o m::ags' /\ vs = .ref a::vs' /\ as = a::as' /\ δ[j]? = some (some (.pv m o)) /\ σ[j]? = some (some (.ref a)) /\ AArg K G δ σ r ags' vs' as'
 | .val _::r,ags,vs,as=>∃ d ags' v vs' a as',ags = .v d::ags' /\ vs = v::vs' /\ as = a::as' /\ Rep K G d v /\ AArg K G δ σ r ags' vs' as'
theorem aarg_of {K : PySem.W.Frag} {B G H : Hp} {δ : En} {σ : St} (rs : RepS K B G H δ σ) : ∀ {ars : List Ar} {ags : List Ag} {vs : List V},ArgRep K G δ σ ars ags vs->∃ as,AArg K G δ σ ars ags vs as
 | [],_,_,⟨h1,h2⟩=>⟨[],h1,h2,rfl⟩
 | .own j::r,_,_,⟨m,o,ags',v,vs',h1,h2,h3,h4,h5⟩=>by
  obtain ⟨as,h⟩:=aarg_of rs h5
  obtain ⟨w,e1,a,us,rfl,_⟩:=rs.at_ j _ h3
  rw [h4] at e1
  cases e1
  exact ⟨a::as,m,o,ags',vs',a,as,h1,h2,rfl,h3,h4,h⟩
 | .val _::r,_,_,⟨d,ags',v,vs',h1,h2,h3,h5⟩=>by
  obtain ⟨as,h⟩:=aarg_of rs h5
  exact ⟨0::as,d,ags',v,vs',0,as,h1,h2,rfl,h3,h⟩
section
variable {K : PySem.W.Frag} {G : Hp} {δ : En} {σ : St}
theorem AArg.len : ∀ {ars : List Ar} {ags : List Ag} {vs : List V} {as : List Addr},AArg K G δ σ ars ags vs as->as.length = ags.length /\ (mkS ags as).length = vs.length
 | [],_,_,_,h=>by obtain ⟨rfl,rfl,rfl⟩:=h; exact ⟨rfl,rfl⟩
 | .own j::r,_,_,_,h=>by
  obtain ⟨m,o,ags',vs',a,as',rfl,rfl,rfl,_,_,h⟩:=h
  obtain ⟨l1,l2⟩:=h.len
  exact ⟨by simp [l1],by simp [mkS,l2]⟩
 | .val _::r,_,_,_,h=>by
  obtain ⟨d,ags',v,vs',a,as',rfl,rfl,rfl,_,h⟩:=h
  obtain ⟨l1,l2⟩:=h.len
  exact ⟨by simp [l1],by simp [mkS,l2]⟩
theorem AArg.pv : ∀ {ars : List Ar} {ags : List Ag} {vs : List V} {as : List Addr} {i : Nat} {m : Mo} {o : Option Addr},AArg K G δ σ ars ags vs as->(mkS ags as)[i]? = some (.pv m o)->
  ∃ a j o',o = some a /\ ars[i]? = some (.own j) /\ vs[i]? = some (.ref a) /\ δ[j]? = some (some (.pv m o')) /\ σ[j]? = some (some (.ref a))
 | [],_,_,_,i,m,o,h,e=>by obtain ⟨rfl,rfl,rfl⟩:=h; simp [mkS] at e
 | .own j::r,_,_,_,i,m,o,h,e=>by
  obtain ⟨m1,o1,ags',vs',a,as',rfl,rfl,rfl,h1,h2,h⟩:=h
  cases i with
  | zero=>
   simp only [mkS,List.getElem?_cons_zero] at e
   cases e
   exact ⟨a,j,o1,rfl,rfl,rfl,h1,h2⟩
  | succ i=>
   simp only [mkS,List.getElem?_cons_succ] at e
   exact h.pv e
 | .val _::r,_,_,_,i,m,o,h,e=>by
  obtain ⟨d,ags',v,vs',a,as',rfl,rfl,rfl,_,h⟩:=h
  cases i with
  | zero=>simp only [mkS,List.getElem?_cons_zero] at e; cases e
  | succ i=>
   simp only [mkS,List.getElem?_cons_succ] at e
   exact h.pv e
theorem AArg.sh : ∀ {ars : List Ar} {ags : List Ag} {vs : List V} {as : List Addr} {i : Nat} {d : D},AArg K G δ σ ars ags vs as->(mkS ags as)[i]? = some (.sh d)->∃ v,vs[i]? = some v /\ Rep K G d v
 | [],_,_,_,i,d,h,e=>by obtain ⟨rfl,rfl,rfl⟩:=h; simp [mkS] at e
 | .own j::r,_,_,_,i,d,h,e=>by
  obtain ⟨m1,o1,ags',vs',a,as',rfl,rfl,rfl,h1,h2,h⟩:=h
  cases i with
  | zero=>simp only [mkS,List.getElem?_cons_zero] at e; cases e
  | succ i=>
   simp only [mkS,List.getElem?_cons_succ] at e
   exact h.sh e
 | .val _::r,_,_,_,i,d,h,e=>by
  obtain ⟨d1,ags',v,vs',a,as',rfl,rfl,rfl,h1,h⟩:=h
  cases i with
  | zero=>simp only [mkS,List.getElem?_cons_zero] at e; cases e; exact ⟨v,rfl,h1⟩
  | succ i=>
   simp only [mkS,List.getElem?_cons_succ] at e
   exact h.sh e
theorem AArg.ob : ∀ {ars : List Ar} {ags : List Ag} {vs : List V} {as : List Addr} {i : Nat} {c : Ex},AArg K G δ σ ars ags vs as->(mkS ags as)[i]? = some (.ob c)->False
 | [],_,_,_,i,c,h,e=>by obtain ⟨rfl,rfl,rfl⟩:=h; simp [mkS] at e
 | .own j::r,_,_,_,i,c,h,e=>by
  obtain ⟨m1,o1,ags',vs',a,as',rfl,rfl,rfl,h1,h2,h⟩:=h
  cases i with
  | zero=>simp only [mkS,List.getElem?_cons_zero] at e; cases e
  | succ i=>
   simp only [mkS,List.getElem?_cons_succ] at e
   exact h.ob e
 | .val _::r,_,_,_,i,c,h,e=>by
  obtain ⟨d1,ags',v,vs',a,as',rfl,rfl,rfl,h1,h⟩:=h
  cases i with
  | zero=>simp only [mkS,List.getElem?_cons_zero] at e; cases e
  | succ i=>
   simp only [mkS,List.getElem?_cons_succ] at e
   exact h.ob e
theorem AArg.tk : ∀ {ars : List Ar} {ags : List Ag} {vs : List V} {as : List Addr} {i : Nat} {P : Program} {w : World} {c : List (List Key)},AArg K G δ σ ars ags vs as->(mkS ags as)[i]? = some (.tk P w c)->False
 | [],_,_,_,i,P,w,c,h,e=>by obtain ⟨rfl,rfl,rfl⟩:=h; simp [mkS] at e
 | .own j::r,_,_,_,i,P,w,c,h,e=>by
  obtain ⟨m1,o1,ags',vs',a,as',rfl,rfl,rfl,h1,h2,h⟩:=h
  cases i with
  | zero=>simp only [mkS,List.getElem?_cons_zero] at e; cases e
  | succ i=>
   simp only [mkS,List.getElem?_cons_succ] at e
   exact h.tk e
 | .val _::r,_,_,_,i,P,w,c,h,e=>by
  obtain ⟨d1,ags',v,vs',a,as',rfl,rfl,rfl,h1,h⟩:=h
  cases i with
  | zero=>simp only [mkS,List.getElem?_cons_zero] at e; cases e
  | succ i=>
   simp only [mkS,List.getElem?_cons_succ] at e
   exact h.tk e
theorem own_mem : ∀ {ars : List Ar} {i j : Nat},ars[i]? = some (.own j)->j ∈ ownsOf ars
 | [],i,j,e=>by simp at e
 | .own k::r,0,j,e=>by simp at e; subst e; exact List.mem_cons_self
 | .own k::r,i + 1,j,e=>List.mem_cons_of_mem _ (own_mem (ars:=r) (i:=i) (by simpa using e))
 | .val f::r,0,j,e=>by simp at e
 | .val f::r,i + 1,j,e=>own_mem (ars:=r) (i:=i) (by simpa using e)
theorem own_inj : ∀ {ars : List Ar} {i i' j : Nat},(ownsOf ars).Nodup->ars[i]? = some (.own j)->ars[i']? = some (.own j)->i = i'
 | [],i,i',j,_,e,_=>by simp at e
 | .own k::r,i,i',j,hn,e,e'=>by
  have hn':=List.nodup_cons.mp hn
  cases i with
  | zero=>
   cases i' with
   | zero=>rfl
   | succ i'=>
    simp at e; subst e
    exact absurd (own_mem (ars:=r) (i:=i') (by simpa using e')) hn'.1
  | succ i=>
   cases i' with
   | zero=>
    simp at e'; subst e'
    exact absurd (own_mem (ars:=r) (i:=i) (by simpa using e)) hn'.1
   | succ i'=>rw [own_inj (ars:=r) (i:=i) (i':=i') hn'.2 (by simpa using e) (by simpa using e')]
 | .val f::r,i,i',j,hn,e,e'=>by
  cases i with
  | zero=>simp at e
  | succ i=>
   cases i' with
   | zero=>simp at e'
   | succ i'=>rw [own_inj (ars:=r) (i:=i) (i':=i') hn (by simpa using e) (by simpa using e')]
theorem AArg.owns : ∀ {ars : List Ar} {ags : List Ag} {vs : List V} {as : List Addr} {j : Nat},AArg K G δ σ ars ags vs as->j ∈ ownsOf ars->∃ m o,δ[j]? = some (some (.pv m o))
 | [],_,_,_,j,h,e=>by cases e
 | .own k::r,_,_,_,j,h,e=>by
  obtain ⟨m1,o1,ags',vs',a,as',rfl,rfl,rfl,h1,h2,h⟩:=h
  rcases List.mem_cons.mp e with rfl | e
  ·exact ⟨m1,o1,h1⟩
  ·exact h.owns e
 | .val _::r,_,_,_,j,h,e=>by
  obtain ⟨d1,ags',v,vs',a,as',rfl,rfl,rfl,h1,h⟩:=h
  exact h.owns e
end
open Classical in
noncomputable def lessOwn (σ : St) (js : List Nat) (H : Hp) : Hp:=fun b=>if ∃ j ∈ js,σ[j]? = some (some (V.ref b)) then none else H b
theorem lessOwn_none {σ : St} {js : List Nat} {H : Hp} {a : Addr} {j : Nat} (hj : j ∈ js) (e : σ[j]? = some (some (V.ref a))) : lessOwn σ js H a = none:=by
 unfold lessOwn; rw [if_pos ⟨j,hj,e⟩]
theorem lessOwn_some {σ : St} {js : List Nat} {H : Hp} {a : Addr} (h : ¬ ∃ j ∈ js,σ[j]? = some (some (V.ref a))) : lessOwn σ js H a = H a:=by
 unfold lessOwn; rw [if_neg h]
theorem lessOwn_same {σ : St} {js : List Nat} {H : Hp} : Same (lessOwn σ js H) H:=fun a o e=>by
 unfold lessOwn at e
 split at e
 ·cases e
 ·exact e
section
variable {X : Cx} {e : Expr} {es : List Expr} {pos p : Pos} {ars : List Ar}
end
section
variable {X : Cx} {e : Expr} {es : List Expr} {pos p : Pos}
theorem stp_new {B G G' H' : Hp} {a : Addr} {o : HO} (s : Stp B G G' H') (n : H' a = none) : Stp B G (upd G' a o) (upd H' a o) where
 g:=s.g.trans (same_new _ (s.s.free n))
 s:=s.s.upd o
 b:=s.b.trans (same_new _ n)
 n:=fun b u eB nG=>by
  have hb : b ≠ a:=fun z=>by subst z; rw [s.b _ _ eB] at n; cases n
  rw [upd_ne hb]
  exact s.n b u eB nG
theorem RepS.new {K : PySem.W.Frag} {B G H : Hp} {δ : En} {σ : St} (rs : RepS K B G H δ σ) (sG : Same G H) {a : Addr} (n : H a = none) (o : HO) : RepS K B (L2.upd G a o) (L2.upd H a o) δ σ:=by
 refine rs.grow ⟨same_new _ (sG.free n),same_new _ n,sG.upd o,fun b u e nG=>?_⟩
 have hb : b ≠ a:=fun z=>by subst z; rw [e] at n; cases n
 rw [upd_ne hb]
 exact nG
end
section
variable {X : Cx} {e : Expr} {es : List Expr} {pos p : Pos}
end
section
variable {X : Cx} {e : Expr} {es : List Expr} {pos p : Pos}
noncomputable def fCallM1 (M : List Sl->Option (Rs × En)) (f : FR) (g : En->Option (List D)) : FE:=fun δ=>(f δ).bind fun r=>match r with | .fr m=>(g δ).bind fun ds=>(outM M (.o m::ds.map .v)).bind fun p=>(match p.1 with | .sh d=>some d | _=>none) | _=>none
end
section
variable {X : Cx} {e : Expr} {es : List Expr} {pos p : Pos}
@[simp] def sExt (i : Nat) (f : FR) : FS:=fun δ=>(f δ).bind fun r=>match r,δ[i]? with
 | .fr (.lst ys),some (some (.pv (.lst ds) o))=>if ds.length + ys.length <= sizeLine then some (.nx (δ.set i (some (.pv (.lst (ds++ys)) o)))) else none
 | _,_=>none
theorem psd_ext (i : Nat) {x : Str} {f : FR} {p p1 p2 : Pos} (he : PR X e f) (hN : X.N[i]? = some x:=by rfl) (hv : Vis X.env.scope x:=by first | exact Or.inl rfl | exact Or.inr (Or.inl rfl) | exact Or.inr (Or.inr rfl))
  (hb : ∀ {t : TE} {tx : TE},PE X (.Name x p) tx->PE X e t->PE X (.Call (.Attribute (.Name x p) "extend" p1) [e] [] p2) (tBM X.K "list" rExtend tx (tCons t tNil)):=by
   intro t tx hx ht; exact pe_bm PySem.F.plainAttrs_list PySem.F.slot_list_extend PySem.F.type_list_extend mt_extend hx (pa_cons ht pa_nil))
  (hd : (x == ("__debug__" : Str)) = false:=by decide) (hcd : (x == ("__classdict__" : Str)) = false:=by decide) (hs : swapsWith (.Call (.Attribute (.Name x p) "extend" p1) [e] [] p2) none pos.line X.env = pure false:=by rfl) :
  PSD X (.Expr (.Call (.Attribute (.Name x p) "extend" p1) [e] [] p2) pos) (sExt i f):=by
 obtain ⟨t,pt,k⟩:=he
 refine ⟨_,ps_expr (hb (pe_var hN hv hd hcd) pt) hs,fun B G H δ σ o D sG sB rs e w=>?_⟩
 unfold sExt at e
 obtain ⟨r,e1,e⟩:=obE e
 split at e
 ·rename_i ys ds o1 em
  split at e
  ·rename_i hl
   cases e
   obtain ⟨v,h1,a,vs,rfl,h2,h3,h4,h5,h6,_⟩:=rs.at_ i _ em
   refine ⟨_,h1,.inl ⟨rfl,_,SqL.of h4⟩,k B G H δ σ (.fr (.lst ys)) _ sG rs e1 fun b us G1 H1 g1 hn ok rl=>?_⟩
   have hH : H1 a = some (.lst vs):=g1.h _ _ h4
   have hG1 : G1 a = none:=g1.n a _ h4 h3
   have hab : a ≠ b:=fun z=>by subst z; rw [hH] at hn; cases hn
   have rl' : RepL X.K G1 ys us:=rl
   have h6' : RepL X.K G ds vs:=h6
   refine ⟨a,b,vs,us,rfl,rfl,(by rw [upd_ne hab]; exact hH),upd_same,by rw [<- h6'.length,<- rl'.length]; exact hl,?_⟩
   have g2 : Grow G1 H1 G1 (upd H1 b (.lst us)):=⟨Same.refl _,same_new _ hn,g1.s.trans (same_new _ hn),fun _ _ _ n=>n⟩
   have g12:=g1.trans g2
   exact w σ G1 _ ((g12.stp sB).trans (stp_own g12.s (sB.trans g12.h) h2 hG1)) ((rs.grow g12).upd (m':=.lst (ds++ys)) (us:=vs++us) em h1 h2 hG1 True.intro ((h6'.mono g1.g).append rl'))
  ·cases e
 ·cases e
end
section
variable {X : Cx} {e : Expr} {es : List Expr} {pos p : Pos}
def rInDc (neg : Bool) : R2:=fun x y H Q=>∃ a o,y = .ref a /\ DGet H a x o /\ Q (.bl (if neg then !o.isSome else o.isSome)) H
theorem op_inDc (hu : X.A.units + 20 < cLine) : OpR X (compareOp .In) (rInDc false):=by
 intro pins s σ H x y v u Q I rx ry h
 obtain ⟨a,o,rfl,g,q⟩:=h
 cases ry
 exact d_in (by omega) I g rx fun s' I'=>⟨.bl _,H,I',rfl,q⟩
theorem op_notinDc (hu : X.A.units + 20 < cLine) : OpR X (compareOp .NotIn) (rInDc true):=by
 intro pins s σ H x y v u Q I rx ry h
 obtain ⟨a,o,rfl,g,q⟩:=h
 cases ry
 exact d_notIn (by omega) I g rx fun s' I'=>⟨.bl _,H,I',rfl,q⟩
def inDc (neg : Bool) : D->D->Option D
 | x,.dic ks ds=>(keyD x).map fun k=>.bl (if neg then !(valD ks ds k).isSome else (valD ks ds k).isSome)
 | _,_=>none
theorem od_inDc' {f : Value->Value->Sem Value} {neg : Bool} (h : OpR X f (rInDc neg)) : OpD X f (inDc neg):=by
 refine ⟨_,h,fun G H x y v u d Q sG rx ry e k=>?_⟩
 unfold inDc at e
 split at e
 ·rename_i x' ks ds
  obtain ⟨kk,e1,rfl⟩:=omE e
  obtain ⟨a,vs,rfl,hd,hl,nd,rl⟩:=ry.dic sG
  have:=keyD_rep e1 rx
  subst this
  refine ⟨a,valV (ks.zip vs) kk,rfl,.inl ⟨_,kk,hd,rfl,rfl⟩,?_⟩
  have hs : (valV (ks.zip vs) kk).isSome = (valD ks ds kk).isSome:=by
   cases ed : valD ks ds kk with
   | none=>rw [(valD_rep kk hl rl).2 ed]; rfl
   | some y=>obtain ⟨w',e3,_⟩:=(valD_rep kk hl rl).1 y ed; rw [e3]; rfl
  rw [hs]
  exact k _ G H (Grow.refl sG) (by simp [Rep])
 ·cases e
theorem od_inAll (hu : X.A.units + 20 < cLine) : OpD X (compareOp .In) (fun x y=>(inD false x y).or (inDc false x y)):=od_in.or (od_inDc' (op_inDc hu))
theorem od_notinAll (hu : X.A.units + 20 < cLine) : OpD X (compareOp .NotIn) (fun x y=>(inD true x y).or (inDc true x y)):=od_notin.or (od_inDc' (op_notinDc hu))
end
theorem eqV_congr {a b x : V} (h : eqV a b = true) : eqV a x = eqV b x:=by
 cases a <;> cases b <;> simp only [eqV,Bool.false_eq_true,beq_iff_eq] at h <;> first | rfl | (cases x <;> simp_all [eqV]) | skip
 all_goals (try (cases h))
 all_goals (rename_i b1 b2; cases b1 <;> cases b2 <;> rfl)
theorem eqA_tup {xs : List D} {y : D} (h : eqA (.tup xs) y = true) : ∃ ys,y = .tup ys /\ eqAs xs ys = true:=by
 cases y with
 | tup ys=>exact ⟨ys,rfl,by simpa only [eqA] using h⟩
 | _=>simp [eqA] at h
theorem eqA_lst {xs : List D} {y : D} (h : eqA (.lst xs) y = true) : ∃ ys,y = .lst ys /\ eqAs xs ys = true:=by
 cases y with
 | lst ys=>exact ⟨ys,rfl,by simpa only [eqA] using h⟩
 | _=>simp [eqA] at h
theorem eqA_congr : ∀ (n : Nat) {a b x : D},plainN n a = true->plainN n b = true->plainN n x = true->eqA a b = true->eqA a x = eqA b x:=by
 intro n
 have flatc : ∀ {a b x : D},flatD a = true->eqA a b = true->flatD b = true:=fun {a b x} ha h=>by
  cases a <;> first | exact absurd ha Bool.false_ne_true | (cases b <;> first | rfl | (simp [eqA,flatD] at h))
 have fc : ∀ {a b x : D},flatD a = true->eqA a b = true->eqA a x = eqA b x:=fun {a b x} ha h=>by
  have hb : flatD b = true:=flatc (x:=x) ha h
  rw [eqA_flat ha hb] at h
  by_cases hx : flatD x = true
  ·rw [eqA_flat ha hx,eqA_flat hb hx]
   exact eqV_congr h
  ·have e1 : ∀ {c : D},flatD c = true->eqA c x = false:=fun {c} hc=>by
    cases c <;> first | exact absurd hc Bool.false_ne_true | (cases x <;> first | (exact absurd rfl hx) | simp [eqA,flatD])
   rw [e1 ha,e1 hb]
 induction n with
 | zero=>
  intro a b x pa pb px h
  refine fc ?_ h
  cases a <;> first | rfl | exact absurd pa Bool.false_ne_true
 | succ n ih=>
  intro a b x pa pb px h
  have lists : ∀ {xs ys zs : List D},xs.all (plainN n) = true->ys.all (plainN n) = true->zs.all (plainN n) = true->eqAs xs ys = true->eqAs xs zs = eqAs ys zs:=by
   intro xs
   induction xs with
   | nil=>
    intro ys zs _ _ _ h
    cases ys with
    | nil=>rfl
    | cons y ys=>simp [eqAs] at h
   | cons x xs ih2=>
    intro ys zs p1 p2 p3 h
    cases ys with
    | nil=>simp [eqAs] at h
    | cons y ys=>
     simp only [eqAs,Bool.and_eq_true] at h
     rw [List.all_cons,Bool.and_eq_true] at p1 p2
     cases zs with
     | nil=>simp [eqAs]
     | cons z zs=>
      rw [List.all_cons,Bool.and_eq_true] at p3
      simp only [eqAs]
      rw [ih p1.1 p2.1 p3.1 h.1,ih2 p1.2 p2.2 p3.2 h.2]
  cases a with
  | tup xs=>
   obtain ⟨ys,rfl,h⟩:=eqA_tup h
   cases x with
   | tup zs=>simp only [eqA]; exact lists pa pb px h
   | _=>simp [eqA]
  | lst xs=>
   obtain ⟨ys,rfl,h⟩:=eqA_lst h
   cases x with
   | lst zs=>simp only [eqA]; exact lists pa pb px h
   | _=>simp [eqA]
  | dic ks xs=>cases pa
  | obj _ _ _=>cases pa
  | _=>exact fc rfl h
section
variable {X : Cx}
theorem relV_inj {v v' : V} {u : Value} (h : RelV v u) (h' : RelV v' u) : v = v':=by
 cases v <;> cases v' <;> simp only [RelV] at h h' <;> first | rfl | (subst h; cases h'; done) | (subst h; cases h'; rfl) | (obtain ⟨t,rfl⟩:=h; obtain ⟨t',e⟩:=h'; cases e; rfl) | (obtain ⟨t,rfl⟩:=h; cases h'; done) | (obtain ⟨t,rfl⟩:=h; obtain ⟨t',e⟩:=h'; cases e; done) | (obtain ⟨t,rfl⟩:=h'; cases h; done)
def inA (x : D) (ds : List D) : Bool:=ds.any fun d=>eqA d x
open Classical in
noncomputable def firstD : List Value->List D->Value->D
 | u::us,d::ds,w=>if u = w then d else firstD us ds w
 | _,_,_=>.non
theorem firstD_spec {K : PySem.W.Frag} {H : Hp} : ∀ {ds : List D} {vs : List V} {us : List Value},RepL K H ds vs->Vals vs us->∀ w ∈ us,∃ v,firstD us ds w ∈ ds /\ Rep K H (firstD us ds w) v /\ RelV v w
 | [],_,_,r,v=>fun w hw=>by simp only [RepL] at r; subst r; cases v; cases hw
 | d::ds,_,_,r,v=>fun w hw=>by
  simp only [RepL] at r
  obtain ⟨v0,vr,rfl,r0,rl⟩:=r
  cases v with
  | cons rv rvs=>
   rename_i u us
   unfold firstD
   split
   ·rename_i e
    subst e
    exact ⟨v0,List.mem_cons_self,r0,rv⟩
   ·rename_i hne
    rcases List.mem_cons.mp hw with rfl | hw
    ·exact absurd rfl hne
    ·obtain ⟨v,h1,h2,h3⟩:=firstD_spec rl rvs w hw
     exact ⟨v,List.mem_cons_of_mem _ h1,h2,h3⟩
theorem any_first {pins : List (Addr × Obj)} {σ : St} {H : Hp} {s : Shared} (I : Inv X pins σ H s) {x : D} (px : plainN 8 x = true) {ds : List D} {vs : List V} {us : List Value} (pd : ds.all (plainN 8) = true) (r : RepL X.K H ds vs) (v : Vals vs us) :
  us.any (fun w=>eqA (firstD us ds w) x) = inA x ds:=by
 have key : ∀ (i : Nat) (d : D) (w : Value),ds[i]? = some d->us[i]? = some w->eqA (firstD us ds w) x = eqA d x:=fun i d w ed ew=>by
  obtain ⟨v1,h1,h2,h3⟩:=firstD_spec r v w (List.mem_of_getElem? ew)
  obtain ⟨v2,g1,g2⟩:=r.get ed
  obtain ⟨u2,k1,k2⟩:=v.get g1
  rw [ew] at k1
  cases k1
  have:=relV_inj h3 k2
  subst this
  have p1:=List.all_eq_true.mp pd _ h1
  have p2:=List.all_eq_true.mp pd _ (List.mem_of_getElem? ed)
  exact eqA_congr 8 p1 p2 px (eqA_same I 8 p1 p2 h2 g2)
 have hl : ds.length = us.length:=r.length.trans v.length
 unfold inA
 rw [Bool.eq_iff_iff,List.any_eq_true,List.any_eq_true]
 constructor
 ·rintro ⟨w,hw,e⟩
  obtain ⟨i,hi⟩:=List.mem_iff_getElem?.mp hw
  have hlt:=(List.getElem?_eq_some_iff.mp hi).1
  have hd : ds[i]? = some ds[i]:=List.getElem?_eq_getElem (by omega)
  exact ⟨ds[i],List.getElem_mem _,by rw [<- key i _ w hd hi]; exact e⟩
 ·rintro ⟨d,hd,e⟩
  obtain ⟨i,hi⟩:=List.mem_iff_getElem?.mp hd
  have hlt:=(List.getElem?_eq_some_iff.mp hi).1
  have hw : us[i]? = some us[i]:=List.getElem?_eq_getElem (by omega)
  exact ⟨us[i],List.getElem_mem _,by rw [key i d _ hi hw]; exact e⟩
def rInA (K : PySem.W.Frag) (neg : Bool) : R2:=fun v u H Q=>∃ x ds,Rep K H x v /\ (Rep K H (.lst ds) u \/ Rep K H (.tup ds) u) /\ plainN 8 x = true /\ ds.all (plainN 8) = true /\ Q (.bl (if neg then !inA x ds else inA x ds)) H
theorem op_inA (hu : X.A.units + 20 < cLine) : OpR X (compareOp .In) (rInA X.K false):=by
 intro pins s σ H y z v u Q I ry rz h
 obtain ⟨x,ds,r1,r2,p1,p2,q⟩:=h
 rcases r2 with r2 | r2
 ·simp only [Rep] at r2
  obtain ⟨b,us,rfl,h3,h4⟩:=r2
  cases rz
  obtain ⟨its,rv,pl,hz⟩:=I.list h3
  refine SeqAt.in_listAt (fun w=>eqA (firstD its ds w) x) pl.isList (fun w hw=>?_) ⟨.bl _,H,I,rfl,?_⟩
  ·obtain ⟨v1,g1,g2,g3⟩:=firstD_spec h4 rv w (by simpa using hw)
   exact eqAt_A I 8 (List.all_eq_true.mp p2 _ g1) p1 g2 r1 g3 ry (by rw [in1_units]; omega)
  ·rw [show its.toArray.any (fun w=>eqA (firstD its ds w) x) = its.any (fun w=>eqA (firstD its ds w) x) by simp,any_first I p1 p2 h4 rv]
   exact q
 ·simp only [Rep] at r2
  obtain ⟨b,us,rfl,h3,h4⟩:=r2
  cases rz
  obtain ⟨its,rv,pl,hz⟩:=I.tuple h3
  refine SeqAt.in_tupleAt (fun w=>eqA (firstD its ds w) x) pl (fun w hw=>?_) ⟨.bl _,H,I,rfl,?_⟩
  ·obtain ⟨v1,g1,g2,g3⟩:=firstD_spec h4 rv w (by simpa using hw)
   exact eqAt_A I 8 (List.all_eq_true.mp p2 _ g1) p1 g2 r1 g3 ry (by rw [in1_units]; omega)
  ·rw [show its.toArray.any (fun w=>eqA (firstD its ds w) x) = its.any (fun w=>eqA (firstD its ds w) x) by simp,any_first I p1 p2 h4 rv]
   exact q
theorem op_notinA (hu : X.A.units + 20 < cLine) : OpR X (compareOp .NotIn) (rInA X.K true):=by
 intro pins s σ H y z v u Q I ry rz h
 obtain ⟨x,ds,r1,r2,p1,p2,q⟩:=h
 rcases r2 with r2 | r2
 ·simp only [Rep] at r2
  obtain ⟨b,us,rfl,h3,h4⟩:=r2
  cases rz
  obtain ⟨its,rv,pl,hz⟩:=I.list h3
  refine SeqAt.notIn_listAt (fun w=>eqA (firstD its ds w) x) pl.isList (fun w hw=>?_) ⟨.bl _,H,I,rfl,?_⟩
  ·obtain ⟨v1,g1,g2,g3⟩:=firstD_spec h4 rv w (by simpa using hw)
   exact eqAt_A I 8 (List.all_eq_true.mp p2 _ g1) p1 g2 r1 g3 ry (by rw [in1_units]; omega)
  ·rw [show its.toArray.any (fun w=>eqA (firstD its ds w) x) = its.any (fun w=>eqA (firstD its ds w) x) by simp,any_first I p1 p2 h4 rv]
   exact q
 ·simp only [Rep] at r2
  obtain ⟨b,us,rfl,h3,h4⟩:=r2
  cases rz
  obtain ⟨its,rv,pl,hz⟩:=I.tuple h3
  refine SeqAt.notIn_tupleAt (fun w=>eqA (firstD its ds w) x) pl (fun w hw=>?_) ⟨.bl _,H,I,rfl,?_⟩
  ·obtain ⟨v1,g1,g2,g3⟩:=firstD_spec h4 rv w (by simpa using hw)
   exact eqAt_A I 8 (List.all_eq_true.mp p2 _ g1) p1 g2 r1 g3 ry (by rw [in1_units]; omega)
  ·rw [show its.toArray.any (fun w=>eqA (firstD its ds w) x) = its.any (fun w=>eqA (firstD its ds w) x) by simp,any_first I p1 p2 h4 rv]
   exact q
def inAD (neg : Bool) : D->D->Option D
 | x,.lst ds=>if plainN 8 x = true /\ ds.all (plainN 8) = true then some (.bl (if neg then !inA x ds else inA x ds)) else none
 | x,.tup ds=>if plainN 8 x = true /\ ds.all (plainN 8) = true then some (.bl (if neg then !inA x ds else inA x ds)) else none
 | _,_=>none
theorem od_inA' {f : Value->Value->Sem Value} {neg : Bool} (h : OpR X f (rInA X.K neg)) : OpD X f (inAD neg):=by
 refine ⟨_,h,fun G H x y v u d Q sG rx ry e k=>?_⟩
 unfold inAD at e
 split at e
 ·split at e
  ·rename_i hp
   cases e
   exact ⟨x,_,rx.all sG,.inl (ry.all sG),hp.1,hp.2,k _ G H (Grow.refl sG) (by simp [Rep])⟩
  ·cases e
 ·split at e
  ·rename_i hp
   cases e
   exact ⟨x,_,rx.all sG,.inr (ry.all sG),hp.1,hp.2,k _ G H (Grow.refl sG) (by simp [Rep])⟩
  ·cases e
 ·cases e
def inE (neg : Bool) (x y : D) : Option D:=(inAD neg x y).or ((inD neg x y).or (inDc neg x y))
theorem od_inE (hu : X.A.units + 20 < cLine) : OpD X (compareOp .In) (inE false):=(od_inA' (op_inA hu)).or (od_inAll hu)
theorem od_notinE (hu : X.A.units + 20 < cLine) : OpD X (compareOp .NotIn) (inE true):=(od_inA' (op_notinA hu)).or (od_notinAll hu)
end
open PySem.AutoSeq1 (wpAny_loadPart')
open PySem.MeetsSeq PySem.MeetsSeq2 PySem.MeetsSeq3 PySem.SeqAt
def EqP (pr : Program) (w : World) (A : Around) (s : Shared) (u v : Value) (c : Bool) : Prop:=∀ (E : Value->Shared->Prop) (Q : Bool->Shared->Prop),Q c s->wpAny (model pr w) A (eqBool u v) Q E s
abbrev lstObj (d : Option Addr) (xs : Array Value) (n : Nat) (sl : Array (Option Value)) : Obj:={ cls:=.type "list",dict:=d,data:=.seq xs n,slots:=sl }
theorem ne_loopP {pr : Program} {w : World} (p q : Addr) (xs ys : Array Value) (n m : Nat) (d1 d2 : Option Addr) (s1 s2 : Array (Option Value)) (hz : xs.size = ys.size) (e : Nat->Bool) (k : Nat) :
  ∀ i : Nat,xs.size - i = k->∀ (A : Around) (R : Result->Shared->Prop) (s : Shared),s.heap.get? p = some (lstObj d1 xs n s1)->s.heap.get? q = some (lstObj d2 ys m s2)->
   (∀ j (h1 : j < xs.size) (h2 : j < ys.size),EqP pr w A.in1 s xs[j] ys[j] (e j))->R (.ok (.ret (.bool (!((List.range xs.size).drop i).all e)))) s->
   wpAny (model pr w) A.in1 (Builtin.«list.__eq__.loop» ⟨[.ref p,.ref q,rawInt i,rawInt 3],[]⟩)
    (fun fin s'=>match fin with | .done f=>R (.ok f) s' | .again c'=>c'.quiet = true /\ codeAny (model pr w) A c' R s') (fun e s'=>R (.error e) s') s:=by
 induction k with
 | zero=>
  intro i hk A R s hp hq he h
  obtain ⟨hh,g,d,tk,os⟩:=s
  wp_walk using wpAny_loadPart' hp,wpAny_loadPart' hq
  have z1 : xs[((i : Nat) : Int).toNat]? = none:=by simp; omega
  have z2 : ys[((i : Nat) : Int).toNat]? = none:=by simp; omega
  have zd : (List.range xs.size).drop i = []:=by simp; omega
  rw [zd] at h
  rw [z1,z2]
  wp_walk using wpAny_loadPart' hp,wpAny_loadPart' hq
  show R (.ok (.ret (.bool (xs.size != ys.size)))) _
  rw [hz]
  simpa using h
 | succ k ih=>
  intro i hk A R s hp hq he h
  obtain ⟨hh,g,d,tk,os⟩:=s
  wp_walk using wpAny_loadPart' hp,wpAny_loadPart' hq
  have l1 : i < xs.size:=by omega
  have l2 : i < ys.size:=by omega
  have z1 : xs[((i : Nat) : Int).toNat]? = some xs[i]:=by simp [l1]
  have z2 : ys[((i : Nat) : Int).toNat]? = some ys[i]:=by simp [l2]
  have zd : (List.range xs.size).drop i = i::(List.range xs.size).drop (i + 1):=by simp [List.drop_eq_getElem_cons,l1]
  have zc : ((i : Int) + 1) = ((i + 1 : Nat) : Int):=by push_cast; rfl
  rw [zd,List.all_cons] at h
  rw [z1,z2]
  refine wpAny_bind (he i l1 l2 _ _ ?_)
  cases ei : e i with
  | true=>
   rw [ei] at h
   wp_walk
   rw [zc]
   exact ⟨plainId_quiet plain_eq_loop _,codeAny_builtin entry_eq_loop (by rw [Around.under_plainId plain_eq_loop _]; exact ih (i + 1) (by omega) A R _ hp hq he (by simpa using h))⟩
  | false=>
   rw [ei] at h
   wp_walk using wpAny_loadPart' hp,wpAny_loadPart' hq
   rw [z1,z2]
   wp_walk
   simpa using h
theorem ne_listP {pr : Program} {w : World} {A : Around} {E : Value->Shared->Prop} {s : Shared} {p q : Addr} {xs ys : Array Value} {e : Nat->Bool} {Q : Value->Shared->Prop} (hl : s.heap.IsList p xs) (hb : s.heap.IsList q ys) (hz : xs.size = ys.size) (hu : A.units < cLine)
  (he : ∀ j (h1 : j < xs.size) (h2 : j < ys.size),EqP pr w A.in1 s xs[j] ys[j] (e j)) (h : Q (.bool (!(List.range xs.size).all e)) s) : wpAny (model pr w) A (compareOp .NotEq (.ref p) (.ref q)) Q E s:=by
 obtain ⟨⟨c1,d1,dt1,s1⟩,ho,hc,n,hd⟩:=id hl
 obtain ⟨⟨c2,d2,dt2,s2⟩,ho2,hc2,m,hd2⟩:=id hb
 simp only at hc hd hc2 hd2
 subst hc hd hc2 hd2
 refine wpAny_richCompare_same_room (op:=.NotEq) ⟨_,ho,rfl⟩ ⟨_,ho2,rfl⟩ PySem.F.slot_list_ne (wpAny_call (codeAny_call_builtin PySem.F.slot_list_ne.plain PySem.F.entry_list_ne (PySem.F.slot_list_ne.check _ _ _ _ _ _ _ _ ⟨_,ho,rfl⟩ (PySem.F.args_list_ne_2 _ _) ?_))) hu
 obtain ⟨hh,g,d,tk,os⟩:=s
 have f3:=PySem.AutoSeq1.sub_list_list
 have hne : ¬ (xs.size != ys.size) = true:=by simp [hz]
 wp_walk using wpAny_loadPart' ho,wpAny_loadPart' ho2
 exact ⟨plainId_quiet plain_eq_loop _,codeAny_builtin entry_eq_loop (by rw [Around.under_plainId plain_eq_loop _]; exact ne_loopP p q xs ys n m d1 d2 s1 s2 hz e _ 0 rfl A (PySem.wants (fun v s'=>v ≠ .notImplemented /\ Q v s') E) _ ho ho2 he (show Value.bool (!((List.range xs.size).drop 0).all e) ≠ Value.notImplemented /\ Q (.bool (!((List.range xs.size).drop 0).all e)) _ from ⟨(fun z=>nomatch z),by simpa using h⟩))⟩
def itemOk : D->D->Bool
 | .dic _ xs,.dic _ ys=>xs.all (plainN 8) && ys.all (plainN 8)
 | x,y=>plainN 8 x && plainN 8 y
def eqI : D->D->Bool
 | .dic ks xs,.dic ls ys=>eqDic ks xs ls ys
 | x,y=>eqA x y
def itemsOk : List D->List D->Bool
 | x::xs,y::ys=>itemOk x y && itemsOk xs ys
 | [],[]=>true
 | _,_=>false
def eqIs : List D->List D->Bool
 | x::xs,y::ys=>eqI x y && eqIs xs ys
 | [],[]=>true
 | _,_=>false
theorem itemsOk_len : ∀ {xs ys : List D},itemsOk xs ys = true->xs.length = ys.length
 | [],[],_=>rfl
 | x::xs,y::ys,h=>by
  simp only [itemsOk,Bool.and_eq_true] at h
  simp [itemsOk_len h.2]
 | [],_::_,h=>by cases h
 | _::_,[],h=>by cases h
theorem itemsOk_get : ∀ {xs ys : List D} {j : Nat} {x y : D},itemsOk xs ys = true->xs[j]? = some x->ys[j]? = some y->itemOk x y = true
 | [],_,j,x,y,_,e,_=>by simp at e
 | _::_,[],j,x,y,h,_,_=>by cases h
 | a::xs,b::ys,j,x,y,h,e1,e2=>by
  simp only [itemsOk,Bool.and_eq_true] at h
  cases j with
  | zero=>simp at e1 e2; subst e1 e2; exact h.1
  | succ j=>exact itemsOk_get h.2 (by simpa using e1) (by simpa using e2)
theorem eqIs_all : ∀ {xs ys : List D},itemsOk xs ys = true->eqIs xs ys = (List.range xs.length).all fun j=>eqI (xs.getD j .non) (ys.getD j .non)
 | [],[],_=>rfl
 | x::xs,y::ys,h=>by
  simp only [itemsOk,Bool.and_eq_true] at h
  simp only [eqIs]
  rw [eqIs_all h.2,List.length_cons,List.range_succ_eq_map,List.all_cons,List.all_map]
  rfl
 | [],_::_,h=>by cases h
 | _::_,[],h=>by cases h
theorem rd_inj {H : Hp} {a : Addr} {k1 k2 : List (Key × V)} (h1 : Rd H a (.dK k1)) (h2 : Rd H a (.dK k2)) : k1 = k2:=by
 rcases h1 with h1 | ⟨o1,h1⟩
 ·rcases h2 with h2 | ⟨o2,h2⟩
  ·rw [h1] at h2; cases h2; rfl
  ·rw [h1] at h2; cases h2
 ·rcases h2 with h2 | ⟨o2,h2⟩
  ·rw [h1] at h2; cases h2
  ·rw [h1] at h2; cases h2; rfl
section
variable {X : Cx} {pins : List (Addr × Obj)} {σ : St} {H : Hp} {s : Shared}
theorem zip_inj {α β : Type} : ∀ {as as' : List α} {bs bs' : List β},as.length = bs.length->as'.length = bs'.length->as.zip bs = as'.zip bs'->as = as' /\ bs = bs'
 | [],[],[],[],_,_,_=>⟨rfl,rfl⟩
 | [],a::as',[],b::bs',_,_,e=>by simp at e
 | a::as,[],b::bs,[],_,_,e=>by simp at e
 | a::as,a'::as',b::bs,b'::bs',h1,h2,e=>by
  simp only [List.zip_cons_cons,List.cons.injEq,Prod.mk.injEq] at e
  obtain ⟨r1,r2⟩:=zip_inj (by simpa using h1) (by simpa using h2) e.2
  exact ⟨by rw [e.1.1,r1],by rw [e.1.2,r2]⟩
theorem dic_same (I : Inv X pins σ H s) {ks ls : List Key} {xs ys : List D} {v : V} (p1 : xs.all (plainN 8) = true) (p2 : ys.all (plainN 8) = true) (r1 : Rep X.K H (.dic ks xs) v) (r2 : Rep X.K H (.dic ls ys) v) : eqDic ks xs ls ys = true:=by
 simp only [Rep] at r1 r2
 obtain ⟨a,vs,rfl,h1,l1,n1,q1⟩:=r1
 obtain ⟨b,us,e,h2,l2,n2,q2⟩:=r2
 cases e
 obtain ⟨rfl,rfl⟩:=zip_inj (l1.trans q1.length) (l2.trans q2.length) (rd_inj h1 h2)
 unfold eqDic
 rw [Bool.and_eq_true,List.all_eq_true]
 refine ⟨by rw [q1.length,q2.length]; simp,fun kv hkv=>?_⟩
 have key : ∀ {ks : List Key} {xs ys : List D} {vs : List V},ks.Nodup->RepL X.K H xs vs->RepL X.K H ys vs->xs.all (plainN 8) = true->ys.all (plainN 8) = true->∀ kv ∈ ks.zip xs,∃ y,valD ks ys kv.1 = some y /\ eqA kv.2 y = true:=by
  intro ks
  induction ks with
  | nil=>intro xs ys vs _ _ _ _ _ kv h; simp at h
  | cons k0 ks ih=>
   intro xs ys vs hn a1 a2 b1 b2 kv h
   cases xs with
   | nil=>simp at h
   | cons x xs=>
    simp only [RepL] at a1
    obtain ⟨v0,vr,rfl,a3,a4⟩:=a1
    cases ys with
    | nil=>simp only [RepL] at a2; cases a2
    | cons y ys=>
     simp only [RepL] at a2
     obtain ⟨v1,vr',e,a5,a6⟩:=a2
     cases e
     rw [List.all_cons,Bool.and_eq_true] at b1 b2
     have hn':=List.nodup_cons.mp hn
     rw [List.zip_cons_cons] at h
     rcases List.mem_cons.mp h with rfl | h
     ·exact ⟨y,by unfold valD; simp,eqA_same I 8 b1.1 b2.1 a3 a5⟩
     ·obtain ⟨y',e1,e2⟩:=ih hn'.2 a4 a6 b1.2 b2.2 kv h
      have hk : kv.1 ∈ ks:=(List.of_mem_zip h).1
      refine ⟨y',?_,e2⟩
      unfold valD at e1 ⊢
      rw [List.zip_cons_cons,List.find?_cons]
      rw [show decide ((k0,y).1 = kv.1) = false from decide_eq_false fun z=>hn'.1 (by rw [show k0 = kv.1 from z]; exact hk)]
      exact e1
 obtain ⟨y,e1,e2⟩:=key n1 q1 q2 p1 p2 kv hkv
 rw [e1]
 exact e2
theorem eqP_I (I : Inv X pins σ H s) {A : Around} (hu : A.units + 12 < cLine) {x y : D} {v v' : V} {u u' : Value} (ok : itemOk x y = true) (rx : Rep X.K H x v) (ry : Rep X.K H y v') (r : RelV v u) (r' : RelV v' u') : EqP X.prog X.w A s u u' (eqI x y):=by
 have plain : plainN 8 x = true->plainN 8 y = true->EqP X.prog X.w A s u u' (eqA x y):=fun p1 p2 E Q hq=>eqAt_A I 8 p1 p2 rx ry r r' (by omega) X.prog X.w E Q hq
 cases x with
 | dic ks xs=>
  cases y with
  | dic ls ys=>
   simp only [itemOk,Bool.and_eq_true] at ok
   intro E Q hq
   have r1:=rx
   have r2:=ry
   obtain ⟨a,vs,ka,rfl,m1,d1,k1,l1,rl1,n1⟩:=dic_at I r1
   obtain ⟨b,us,kb,rfl,m2,d2,k2,l2,rl2,n2⟩:=dic_at I r2
   cases r
   cases r'
   by_cases hab : a = b
   ·subst hab
    have e1 : eqI (.dic ks xs) (.dic ls ys) = true:=dic_same I ok.1 ok.2 rx ry
    rw [e1] at hq
    exact (PySem.SeqAt.EqAt.same (.ref a) : PySem.SeqAt.EqAt A s (.ref a) (.ref a) true) X.prog X.w E Q hq
   ·have hne : (Value.ref a == Value.ref b) ≠ true:=fun z=>hab (by have:=eq_of_beq z; injection this)
    unfold eqBool
    refine wpAny_holding ?_
    refine wpAny_ite_split (fun z=>absurd z hne) (fun _=>?_)
    refine wpAny_bind (show wpAny (model X.prog X.w) A (compareOp .Eq (.ref a) (.ref b)) _ E s from ?_)
    refine PySem.W.keq_eq m1 m2 d1 d2 (by omega) (fun _=>hits_D I (by rw [in1_units]; omega) l2 rl2 ok.2 k2 l1 rl1 ok.1 k1) (wpAny_truthy_bool ?_)
    rw [n1,n2]
    exact hq
  | _=>simp [itemOk,plainN] at ok
 | _=>
  cases y with
  | dic ls ys=>simp [itemOk,plainN] at ok
  | _=>simp only [itemOk,Bool.and_eq_true] at ok; exact plain ok.1 ok.2
end
section
variable {X : Cx}
def rNeI (K : PySem.W.Frag) : R2:=fun v u H Q=>∃ xs ys,Rep K H (.lst xs) v /\ Rep K H (.lst ys) u /\ itemsOk xs ys = true /\ Q (.bl (!eqIs xs ys)) H
theorem op_neI (hu : X.A.units + 20 < cLine) : OpR X (compareOp .NotEq) (rNeI X.K):=by
 intro pins s σ H x y v u Q I rx ry h
 obtain ⟨xs,ys,r1,r2,ok,q⟩:=h
 simp only [Rep] at r1 r2
 obtain ⟨a,vs,rfl,h1,h2⟩:=r1
 obtain ⟨b,us,rfl,h3,h4⟩:=r2
 cases rx
 cases ry
 obtain ⟨its,v1,t1,_⟩:=I.list h1
 obtain ⟨its2,v2,t2,_⟩:=I.list h3
 have le:=itemsOk_len ok
 have l1 : xs.length = its.length:=h2.length.trans v1.length
 have l2 : ys.length = its2.length:=h4.length.trans v2.length
 refine ne_listP (e:=fun j=>eqI (xs.getD j .non) (ys.getD j .non)) t1.isList t2.isList (by simp; omega) (by omega) (fun j z1 z2=>?_) ?_
 ·have j1 : j < xs.length:=by simp at z1; omega
  have j2 : j < ys.length:=by simp at z2; omega
  have e1 : xs[j]? = some (xs.getD j .non):=by rw [List.getD_eq_getElem?_getD,List.getElem?_eq_getElem j1]; rfl
  have e2 : ys[j]? = some (ys.getD j .non):=by rw [List.getD_eq_getElem?_getD,List.getElem?_eq_getElem j2]; rfl
  obtain ⟨w1,g1,q1⟩:=h2.get e1
  obtain ⟨w2,g2,q2⟩:=h4.get e2
  obtain ⟨u1,k1,k2⟩:=v1.get g1
  obtain ⟨u2,k3,k4⟩:=v2.get g2
  have t1 : its.toArray[j] = u1:=by
   obtain ⟨_,z⟩:=List.getElem?_eq_some_iff.mp k1
   simpa using z
  have t2 : its2.toArray[j] = u2:=by
   obtain ⟨_,z⟩:=List.getElem?_eq_some_iff.mp k3
   simpa using z
  rw [t1,t2]
  exact eqP_I I (by rw [in1_units]; omega) (itemsOk_get ok e1 e2) q1 q2 k2 k4
 ·refine ⟨.bl _,H,I,rfl,?_⟩
  rw [show its.toArray.size = xs.length by simp; omega,<- eqIs_all ok]
  exact q
def neI : D->D->Option D
 | .lst xs,.lst ys=>if itemsOk xs ys = true then some (.bl (!eqIs xs ys)) else none
 | _,_=>none
theorem od_neI (hu : X.A.units + 20 < cLine) : OpD X (compareOp .NotEq) neI:=by
 refine ⟨_,op_neI hu,fun G H x y v u d Q sG rx ry e k=>?_⟩
 unfold neI at e
 split at e
 ·split at e
  ·rename_i ok
   cases e
   exact ⟨_,_,rx.all sG,ry.all sG,ok,k _ G H (Grow.refl sG) (by simp [Rep])⟩
  ·cases e
 ·cases e
def neE (x y : D) : Option D:=(eqO true x y).or (neI x y)
theorem od_neE (hu : X.A.units + 20 < cLine) : OpD X (compareOp .NotEq) neE:=(od_neO hu).or (od_neI hu)
end
theorem ns_okIn {K : PySem.W.Frag} {h : Heap} {N : Addr} (KX : K.In h) (hn : PySem.W.nsOkIn K N = true) : ∃ m,h.Ns N m:=by
 unfold PySem.W.nsOkIn at hn
 split at hn
 ·rename_i es ep sl hl
  refine ⟨nsFind es,_,es,ep,KX _ _ hl,rfl,?_,fun _=>rfl⟩
  intro e he
  have:=(Array.all_eq_true_iff_forall_mem.mp hn) e he
  split at this
  ·exact ⟨_,_,by assumption⟩
  ·cases this
 ·cases hn
theorem ownK {K : PySem.W.Frag} {h : Heap} {C : Addr} {bmB : List Value} {newId : String} (KX : K.In h) (hx : PySem.W.excIn K C bmB newId = true) :
  ∃ bm N nm q bs hdct sn sub ab col dd k0 k1 k2 k3 k5 mN,h.get? C = some (excClassObj nm q C N bs bm hdct sn sub ab col dd k0 k1 k2 k3 k5 newId) /\ h.Ns N mN /\ mN "__init__" = none /\ OwnTail h bmB bm:=by
 unfold PySem.W.excIn at hx
 split at hx
 ·rename_i dd cd sl hl
  split at hx
  ·rename_i C' bm k0 k1 k2 k3 n k5 hm hs
   simp only [Bool.and_eq_true,Bool.not_eq_true',beq_iff_eq] at hx
   obtain ⟨⟨⟨⟨⟨rfl,rfl⟩,hd⟩,ht⟩,hn⟩,hi⟩:=hx
   obtain ⟨mN,hN⟩:=ns_okIn KX hn
   rcases cd with ⟨nm,bs,mro,ns,q,hdct,sn,sub,ab,col,hdel⟩
   cases hm
   cases hd
   refine ⟨bm,ns,nm,q,bs,hdct,sn,sub,ab,col,dd,k0,k1,k2,k3,k5,mN,?_,hN,PySem.W.ns_none_of KX hN hi,PySem.W.tail_of_in KX ht⟩
   rw [KX _ _ hl]
   have : sl = #[k0,k1,k2,k3,some (Value.builtin n),k5]:=by rw [<- Array.toArray_toList (xs:=sl),hs]
   rw [this]
  ·cases hx
 ·cases hx
theorem tail_has {h : Heap} {bmB bm : List Value} {v : Value} (t : OwnTail h bmB bm) (e : bmB.contains v = true) : bm.contains v = true:=by
 induction t with
 | base=>exact e
 | own _ _ _ _ ih=>rw [List.contains_cons,ih,Bool.or_true]
def bmV : List Value:=[.type "ValueError",.type "Exception",.type "BaseException",.type "object"]
def RaiseC (K : PySem.W.Frag) (c : Str) : Prop:=∃ C,PySem.W.nsIn K mainGlobals c = some (some (.ref C)) /\ ExcC K C /\ PySem.W.excIn K C bmV "ValueError.__new__" = true
theorem OwnTail.keeps {h h' : Heap} {bmB bm : List Value} (k : ∀ b o,h.get? b = some o->h'.get? b = some o) (t : OwnTail h bmB bm) : OwnTail h' bmB bm:=by
 induction t with
 | base=>exact .base
 | own e n i _ ih=>obtain ⟨o,es,ep,ho,r⟩:=n; exact .own (k _ _ e) ⟨o,es,ep,k _ _ ho,r⟩ i ih
theorem ObjOk.is {P : Program} {w : World} {H : Hp} {h : Heap} {a : Addr} {o : HO} (x : ObjOk P w H h a o) : ∃ u,h.get? a = some u:=by
 induction o with
 | lst xs=>obtain ⟨_,_,_,_,e⟩:=x; exact ⟨_,e⟩
 | tup xs=>obtain ⟨_,_,_,p⟩:=x; obtain ⟨o,e,_⟩:=p; exact ⟨_,e⟩
 | dK kvs=>obtain ⟨_,_,_,_,o,_,_,e,_⟩:=x; exact ⟨_,e⟩
 | dT kvs=>obtain ⟨_,_,_,_,o,_,_,e,_⟩:=x; exact ⟨_,e⟩
 | set S n=>obtain ⟨o,_,_,_,e,_⟩:=x; exact ⟨_,e⟩
 | ins C dx fs=>obtain ⟨_,_,_,e,_⟩:=x; exact ⟨_,e⟩
 | own y=>exact x
 | xd fs=>obtain ⟨_,e,_⟩:=x; obtain ⟨o,_,_,e,_⟩:=e; exact ⟨_,e⟩
 | rng lo hi=>obtain ⟨_,_,_,e⟩:=x; exact ⟨_,e⟩
 | frz o u ih=>exact ⟨_,x.1⟩
 | tbl ps=>exact ⟨_,x⟩
 | met f y=>exact ⟨_,x⟩
 | ext φ=>exact x.2.1
section
variable {X : Cx} {e0 : Expr} {rest : List Expr} {np cpos pos : Pos} {g : En->Option (List D)} {c : Str}
@[simp] def sRaise (c : Str) (g : En->Option (List D)) : FS:=fun δ=>(g δ).bind fun ds=>if ds.length <= sizeLine then some (.ex ⟨c,[],[]⟩ δ) else none
def tRaise (X : Cx) (c : Str) (ta : TA) : TS:=fun D σ H=>ta σ H fun vs H1=>vs.length <= sizeLine /\ ∀ pins s' e C,Inv X pins σ H1 s'->PySem.W.nsIn X.K mainGlobals c = some (some (.ref C))->Fly X H1 s'.heap e C none->X.xe (.ref e) s'
theorem ps_raise {ta : TA} (R : RaiseC X.K c) (hex : X.ex = []) (hc : X.calm = true) (ha : PA X (e0::rest) ta) (hg : Gl X c) (hdb : (c == ("__debug__" : Str)) = false)
  (he : starEach (e0::rest) X.env = (false,eval e0 X.env)::starEach rest X.env) (hpl : (backTo cpos (starEach (e0::rest) X.env)).any (·.1) = false) :
  PS X (.Raise (some (.Call (.Name c np) (e0::rest) [] cpos)) none pos) (tRaise X c ta):=by
 intro pins s σ H D I h
 obtain ⟨C,hC,eC,hx⟩:=R
 obtain ⟨bm,N,nm,q,bs,hdct,sn,sub,ab,col,dd,k0,k1,k2,k3,k5,mN,h1,hN,hi,hT⟩:=ownK I.ok.mod.kin hx
 refine wpAny_Raise_call_subT (nm:=nm) (q:=q) (C:=C) (N:=N) (bs:=bs) (hdct:=hdct) (sn:=sn) (sub:=sub) (ab:=ab) (col:=col) (dd:=dd) (k0:=k0) (k1:=k1) (k2:=k2) (k3:=k3) (k5:=k5) PySem.F.excBase_ValueError (tail_has hT (by decide)) (I.ok.hd hc) hpl hi ?_
 refine ld_glob I hg (PySem.W.mg_of I.ok.mod.kin I.ok.mod.glob hC) ⟨rfl,?_⟩ hdb
 obtain ⟨x0,hb⟩ : ∃ x0,backTo cpos (starEach (e0::rest) X.env) = (false,x0)::backTo cpos (starEach rest X.env):=⟨_,by rw [he]; rfl⟩
 rw [hb]
 refine Calls.evalArgs_plain ?_
 rw [<- hb]
 refine thn (ha cpos pins s σ H _ I h) fun us s2 ⟨vs,H1,I1,r1,hl,q1⟩=>?_
 obtain ⟨o,es,ep,ho,r⟩:=hN
 refine ⟨rfl,by show us.length <= _; rw [<- r1.length]; exact hl,I1.bk _ _ h1,⟨o,es,ep,I1.bk _ _ ho,r⟩,OwnTail.keeps I1.bk hT,fun h' e me=>?_⟩
 have I3 : Inv X pins σ H1 { s2 with heap:=h' }:=I1.kept (t':=s2.toks) me.keeps
 obtain ⟨t,he',_,_⟩:=me.there
 have fe : H1 e = none:=by
  cases z : H1 e with
  | none=>rfl
  | some u=>obtain ⟨o,ho⟩:=ObjOk.is (I1.hok e u z); rw [me.new] at ho; cases ho
 exact q1 pins _ e C I3 hC ⟨Out1.of I1 hex me.new,fe,_,_,he',rfl,rfl,rfl,.inl rfl⟩
theorem psd_raise (R : RaiseC X.K c) (ha : PAD X (e0::rest) g) (hex : X.ex = []:=by rfl) (hc : X.calm = true:=by rfl) (hg : Gl X c:=by rfl) (hdb : (c == ("__debug__" : Str)) = false:=by decide)
  (he : starEach (e0::rest) X.env = (false,eval e0 X.env)::starEach rest X.env:=by rfl) (hpl : (backTo cpos (starEach (e0::rest) X.env)).any (·.1) = false:=by rfl) :
  PSD X (.Raise (some (.Call (.Name c np) (e0::rest) [] cpos)) none pos) (sRaise c g):=by
 obtain ⟨ta,pa,ka⟩:=ha
 refine ⟨_,ps_raise R hex hc pa hg hdb he hpl,fun B G H δ σ o D sG sB rs e w=>?_⟩
 unfold sRaise at e
 obtain ⟨ds,e1,e⟩:=obE e
 split at e
 ·rename_i hl
  cases e
  refine ka B G H δ σ ds _ sG rs e1 fun vs G1 H1 g1 r1=>⟨by rw [<- r1.length]; exact hl,fun pins s' e C I hC F=>?_⟩
  exact w pins σ G1 H1 s' e C none I (g1.stp sB) (rs.grow g1) hC ⟨rfl,rfl⟩ F
 ·cases e
end
def FlyN (h0 : Heap) (H : Hp) (h : Heap) (e C : Addr) (od : Option Addr) : Prop:=h0.get? e = none /\ H e = none /\ ∃ oe vs,h.get? e = some oe /\ oe.cls = .ref C /\ oe.dict = od /\ oe.data = .fields vs /\ (vs[1]? = some .none \/
  ∃ T oT ts,vs[1]? = some (.ref T) /\ T ≠ e /\ h0.get? T = none /\ H T = none /\ h.get? T = some oT /\ oT.data = .fields ts /\ ts[3]? = some .none)
theorem Fly.toN {X : Cx} {H : Hp} {h : Heap} {e C : Addr} {od : Option Addr} (F : Fly X H h e C od) : FlyN X.s₀.heap H h e C od:=by
 obtain ⟨o,f,oe,vs,h1,h2,h3,h4,h5⟩:=F
 refine ⟨o.2.1,f,oe,vs,h1,h2,h3,h4,?_⟩
 rcases h5 with h5 | ⟨T,oT,ts,q1,q2,q3,q4⟩
 ·exact .inl h5
 ·exact .inr ⟨T,oT,ts,q1,q2,q3.2.1,q4⟩
theorem FlyN.to {X : Cx} {pins : List (Addr × Obj)} {σ : St} {H H' : Hp} {s : Shared} {h : Heap} {e C : Addr} {od : Option Addr} (F : FlyN s.heap H' h e C od) (I : Inv X pins σ H s) (hex : X.ex = []) : Fly X H' h e C od:=by
 obtain ⟨o,f,oe,vs,h1,h2,h3,h4,h5⟩:=F
 refine ⟨Out1.of I hex o,f,oe,vs,h1,h2,h3,h4,?_⟩
 rcases h5 with h5 | ⟨T,oT,ts,q1,q2,q3,q4⟩
 ·exact .inl h5
 ·exact .inr ⟨T,oT,ts,q1,q2,Out1.of I hex q3,q4⟩
def pr2 (C : Addr) (od : Option Addr) : Addr:=2 ^ C * (2 * (match od with | none=>0 | some d=>d + 1) + 1)
theorem pr2_inj0 : ∀ (C C' a b : Nat),2 ^ C * (2 * a + 1) = 2 ^ C' * (2 * b + 1)->C = C' /\ a = b
 | 0,0,a,b,h=>⟨rfl,by simp at h; omega⟩
 | 0,C' + 1,a,b,h=>by
  rw [Nat.pow_succ] at h
  simp only [Nat.pow_zero,Nat.one_mul] at h
  have : 2 ^ C' * 2 * (2 * b + 1) = 2 * (2 ^ C' * (2 * b + 1)):=by rw [Nat.mul_comm (2 ^ C') 2,Nat.mul_assoc]
  omega
 | C + 1,0,a,b,h=>by
  rw [Nat.pow_succ] at h
  simp only [Nat.pow_zero,Nat.one_mul] at h
  have : 2 ^ C * 2 * (2 * a + 1) = 2 * (2 ^ C * (2 * a + 1)):=by rw [Nat.mul_comm (2 ^ C) 2,Nat.mul_assoc]
  omega
 | C + 1,C' + 1,a,b,h=>by
  rw [Nat.pow_succ,Nat.pow_succ] at h
  have h1 : 2 ^ C * 2 * (2 * a + 1) = 2 * (2 ^ C * (2 * a + 1)):=by rw [Nat.mul_comm (2 ^ C) 2,Nat.mul_assoc]
  have h2 : 2 ^ C' * 2 * (2 * b + 1) = 2 * (2 ^ C' * (2 * b + 1)):=by rw [Nat.mul_comm (2 ^ C') 2,Nat.mul_assoc]
  obtain ⟨x,y⟩:=pr2_inj0 C C' a b (by omega)
  exact ⟨by omega,y⟩
theorem pr2_inj {C C' : Addr} {od od' : Option Addr} (h : pr2 C od = pr2 C' od') : C = C' /\ od = od':=by
 unfold pr2 at h
 obtain ⟨x,y⟩:=pr2_inj0 _ _ _ _ h
 refine ⟨x,?_⟩
 cases od <;> cases od' <;> simp_all
def CXR (P : Program) (w : World) : CXT:=fun outer H s E ev s'=>∃ e C od H',ev = .ref e /\ s'.os = s.os /\ AllBare s'.gens /\ Un (frs outer) [] H H' s.heap s'.heap /\ HOk P w H' s'.heap /\ FlyN s.heap H' s'.heap e C od /\ E ev (some (pr2 C od)) H'
def spE (K : PySem.W.Frag) (M : List Sl->Option Ex) : Sp:=fun vs H Q E=>∃ B G xs c,Same G H /\ Same B H /\ RepS K B G H (xs.map some) (vs.map some) /\ M xs = some c /\
 ∀ e C od G' H',PySem.W.nsIn K mainGlobals c.n = some (some (.ref C))->Stp B G G' H'->Pay K G' c od->E (.ref e) (some (pr2 C od)) H'
def runE (N : List Str) (n : Nat) (fb : FS) : List Sl->Option Ex:=fun xs=>if xs.length = n then (match fb (startS N xs) with | some (.ex c _)=>some c | _=>none) else none
def DefOkE (P : Program) (w : World) (K : PySem.W.Frag) (mg : Str->Option Value) (base : Heap) (k : Nat) (x : Str) (ps : List Str) (M : List Sl->Option Ex) : Prop:=
 ∃ f fd,FnOk P w K mg base (CXR P w) k f fd ps (spE K M) /\ Binds K fd ps [] /\ PySem.W.keepIn K (.ref f) = true /\ mg x = some (.ref f)
abbrev cxE (P : Program) (w : World) (K : PySem.W.Frag) (mg : Str->Option Value) (base : Heap) (N : List Str) (x : Str) (scope : Scope) (f : Addr) (cdv : Value) (A : Around) (outer : List Env) (s : Shared) (H : Hp) (E : XK) : Cx:=
 cxOf (CXR P w) P w K mg base N x scope f cdv A outer s H E
section
variable {P : Program} {w : World} {K : PySem.W.Frag} {mg : Str->Option Value} {base : Heap}
theorem def_runE {x : Str} {st : Stmt} {N ps : List Str} {k : Nat} {fb : FS} (F : DefAt K mg x st) (S : FnScope N ps (defScope st))
  (hb : ∀ (kV doc pm : Value) (an : Option Addr) (cdv ct : Value) (us : List Value),us.length = ps.length->bindArgs (PySem.W.fnOf x x (defArgs st) (defBody st) (defScope st) .none kV doc pm an cdv ct) ⟨us,[]⟩ = pure (ps.zip us))
  (hbody : ∀ (f : Addr) (cdv : Value) (A : Around) (outer : List Env) (s : Shared) (H : Hp) (E : XK),Room k (A.deeper (envOfC x (defScope st) s.heap.objs.size f cdv))->PSsD (cxE P w K mg base N x (defScope st) f cdv A outer s H E) (defBody st) fb) :
  DefOkE P w K mg base (k + 1) x ps (runE N ps.length fb):=by
 obtain ⟨f,fd,F,hm⟩:=F
 refine ⟨f,fd,?_,F.binds hb,F.kp,hm⟩
 obtain ⟨oc,od,kV,doc,pm,an,cdv,ct,osl,rfl,lk,hcd⟩:=F.ex
 refine fn_of lk hcd S (fun vs H Q E h=>?_) fun A outer s H vs Q E hr h=>?_
 ·obtain ⟨B,G,xs,c,sG,sB,rs,e,_⟩:=h
  have hl:=rs.len
  rw [List.length_map,List.length_map] at hl
  rw [<- hl]
  unfold runE at e
  split at e
  ·rename_i hl; exact hl
  ·cases e
 ·obtain ⟨B,G,xs,c,sG,sB,rs,e,q⟩:=h
  obtain ⟨t,pt,kt⟩:=hbody f cdv A outer s H E hr
  have hl:=rs.len
  rw [List.length_map,List.length_map] at hl
  refine ⟨t,pt,?_⟩
  have rs0 : RepS K B G H (startS N xs) (start N vs):=by
   unfold startS start
   rw [hl]
   exact rs.more _
  unfold runE at e
  split at e
  ·split at e
   ·rename_i eb
    cases e
    refine kt B G H _ _ _ _ sG sB rs0 eb ?_
    intro pins σ' G' H' s' e C od I st _ hC hP Fl
    refine leave_fly I rfl rfl Fl fun h' I' F'=>?_
    exact ⟨e,C,od,H',rfl,I'.os,I'.bare,I'.base,I'.hok,F'.toN,q e C od G' H' hC st hP⟩
   ·cases e
  ·cases e
end
section
variable {X : Cx} {k : Nat} {f : Addr} {fd : FuncData} {ps : List Str} {sp : Sp} {x : Str} {p pos : Pos} {e : Expr} {es : List Expr} {t : TA}
def tCallE (X : Cx) (sp : Sp) (t : TA) : TE:=fun σ H Q=>t σ H fun vs H1=>∃ E : XK,sp vs H1 Q E /\ ∀ pins s' e C od H',Inv X pins σ H' s'->Fly X H' s'.heap e C od->E (.ref e) (some (pr2 C od)) H'->X.xe (.ref e) s'
theorem pe_callE (F : FnOk X.prog X.w X.K X.mg X.base (CXR X.prog X.w) k f fd ps sp) (hr : Room k X.A) (hex : X.ex = []) (hg : Gl X x) (hm : X.mg x = some (.ref f)) (hk : PySem.W.keepIn X.K (.ref f) = true) (hb : Binds X.K fd ps [])
  (ha : PA X (e::es) t) (hdb : (x == ("__debug__" : Str)) = false:=by decide) (he : starEach (e::es) X.env = (false,eval e X.env)::starEach es X.env:=by rfl) (hpl : (backTo pos (starEach es X.env)).any (·.1) = false:=by rfl) :
  PE X (.Call (.Name x p) (e::es) [] pos) (tCallE X sp t):=by
 intro pins s σ H Q I h
 refine wpAny_Call_Name_kw (ld_glob I hg hm ?_ hdb)
 refine PySem.W.callWith_K (h₀:=X.base) I.ok.mod.kin hk (thn (ha pos pins s σ H _ I h) fun us s1 ⟨vs,H1,I1,r,E,q,kx⟩=>⟨I1.kIn,?_⟩) he hpl
 have hl : us.length = ps.length:=by rw [<- r.length]; exact F.len _ _ _ _ q
 have bnd:=hb s1 us I1.kIn (by rw [List.append_nil]; exact hl)
 rw [List.append_nil] at bnd
 refine wpAny_call (codeAny_mono (F.run X.A X.stack s1 H1 ⟨us,[]⟩ us vs Q E hr I1.env0 bnd r q) fun r s' hq=>?_)
 cases r with
 | error ev=>
  obtain ⟨e,C,od,H',rfl,os,bare,un,hok,Fl,hE⟩:=hq
  have I2 : Inv X pins σ H' s':=I1.call' os un hok bare (fun b z=>absurd z (by simp))
  exact kx pins s' e C od H' I2 (Fl.to I1 hex) hE
 | ok fl=>
  cases fl with
  | ret u=>exact I1.after hq
  | next=>exact False.elim hq
  | brk=>exact False.elim hq
  | cont=>exact False.elim hq
@[simp] def sOr (F F' : FS) : FS:=fun δ=>(F δ).or (F' δ)
theorem psd_or {st : Stmt} {F F' : FS} (h : PSD X st F) (h' : PSD X st F') : PSD X st (sOr F F'):=by
 obtain ⟨t,pt,k⟩:=h
 obtain ⟨u,pu,l⟩:=h'
 refine ⟨fun D σ H=>t D σ H \/ u D σ H,fun pins s σ H D I q=>q.elim (pt pins s σ H D I) (pu pins s σ H D I),fun B G H δ σ o D sG sB rs e w=>?_⟩
 have e : (F δ).or (F' δ) = some o:=e
 cases eF : F δ with
 | some o1=>rw [eF] at e; cases e; exact .inl (k B G H δ σ _ D sG sB rs eF w)
 | none=>rw [eF] at e; exact .inr (l B G H δ σ o D sG sB rs e w)
@[simp] def sDrop (f : FX) : FS:=fun δ=>(f δ).map fun r=>.nx r.2
theorem psd_drop {f : FX} {pos2 : Pos} (he : PX X e f) (hs : swapsWith e none pos2.line X.env = pure false:=by rfl) : PSD X (.Expr e pos2) (sDrop f):=by
 obtain ⟨t,pt,k⟩:=he
 refine ⟨_,ps_expr pt hs,fun B G H δ σ o D sG sB rs ef w=>?_⟩
 unfold sDrop at ef
 obtain ⟨r,e1,rfl⟩:=omE ef
 exact k B G H δ σ r.1 r.2 _ sG sB rs e1 fun v G' H' st rs' rv=>w σ G' H' st rs'
noncomputable def outE (M : List Sl->Option Ex) (ags : List Ag) : Option Ex:=open Classical in if h : ∃ c,∀ as : List Addr,as.length = ags.length->M (mkS ags as) = some c then some h.choose else none
theorem outE_eq {M : List Sl->Option Ex} {ags : List Ag} {c : Ex} (h : ∀ as : List Addr,as.length = ags.length->M (mkS ags as) = some c) : outE M ags = some c:=by
 have hx : ∃ c,∀ as : List Addr,as.length = ags.length->M (mkS ags as) = some c:=⟨c,h⟩
 unfold outE
 rw [dif_pos hx]
 have h1:=hx.choose_spec (List.replicate ags.length 0) (by simp)
 have h2:=h (List.replicate ags.length 0) (by simp)
 rw [h1] at h2
 exact h2
theorem outE_spec {M : List Sl->Option Ex} {ags : List Ag} {c : Ex} (h : outE M ags = some c) : ∀ as : List Addr,as.length = ags.length->M (mkS ags as) = some c:=by
 unfold outE at h
 split at h
 ·rename_i hx; cases h; exact hx.choose_spec
 ·cases h
theorem aarg_repS {K : PySem.W.Frag} {B G H : Hp} {δ : En} {σ : St} {ars : List Ar} {ags : List Ag} {vs : List V} {as : List Addr} (rs : RepS K B G H δ σ) (aa : AArg K G δ σ ars ags vs as) (hnd : (ownsOf ars).Nodup) :
  RepS K (lessOwn σ (ownsOf ars) H) G H ((mkS ags as).map some) (vs.map some):=by
 obtain ⟨l1,l2⟩:=aa.len
 refine ⟨by simp [l2],fun i x e=>?_,fun i j x y o o' hij e1 e2=>?_⟩
 ·rw [List.getElem?_map] at e
  obtain ⟨x',ex,e⟩:=omE e
  cases e
  cases x with
  | ob c=>exact (aa.ob ex).elim
  | tk _ _ _=>exact (aa.tk ex).elim
  | sh d=>
   obtain ⟨v,q1,q2⟩:=aa.sh ex
   exact ⟨v,by rw [List.getElem?_map,q1]; rfl,q2⟩
  | pv m o=>
   obtain ⟨a,j,o',rfl,q1,q2,q3,q4⟩:=aa.pv ex
   obtain ⟨v,w1,a2,us,rfl,w2,w3,w4,w5,w6,w7⟩:=rs.at_ j _ q3
   rw [q4] at w1
   cases w1
   exact ⟨.ref a,by rw [List.getElem?_map,q2]; rfl,a,us,rfl,lessOwn_none (own_mem q1) q4,w3,w4,w5,w6,fun b z=>by cases z; rfl⟩
 ·rw [List.getElem?_map] at e1 e2
  obtain ⟨x',ex,e1⟩:=omE e1
  obtain ⟨y',ey,e2⟩:=omE e2
  cases e1
  cases e2
  obtain ⟨a,j1,o1,rfl,q1,q2,q3,q4⟩:=aa.pv ex
  obtain ⟨b,j2,o2,rfl,p1,p2,p3,p4⟩:=aa.pv ey
  rw [List.getElem?_map,List.getElem?_map,q2,p2]
  intro z
  have hjj : j1 ≠ j2:=fun z=>hij (own_inj hnd q1 (z ▸ p1))
  refine rs.ap j1 j2 _ _ _ _ hjj q3 p3 ?_
  rw [q4,p4]
  exact Option.some.inj z ▸ rfl
theorem bare_at {δ : En} {i : Nat} {x : Sl} (e : (δ.map fun _=>(none : Option Sl))[i]? = some (some x)) : False:=by
 rw [List.getElem?_map] at e
 cases h : δ[i]? with
 | none=>rw [h] at e; cases e
 | some y=>rw [h] at e; cases e
theorem RepS.bare {K : PySem.W.Frag} {B G H : Hp} {δ : En} {σ : St} (hl : δ.length = σ.length) : RepS K B G H (δ.map fun _=>none) σ:=
 ⟨by simpa using hl,fun i x e=>(bare_at e).elim,fun i j x y o o' _ e _=>(bare_at e).elim⟩
noncomputable def sDropE (M : List Sl->Option Ex) (ars : List Ar) : FS:=fun δ=>(agOf ars δ).bind fun ags=>(outE M ags).map fun c=>.ex c (δ.map fun _=>none)
theorem psd_dropE {pos2 : Pos} {M : List Sl->Option Ex} {ars : List Ar} (F : DefOkE X.prog X.w X.K X.mg X.base k x ps M) (hr : Room k X.A) (ha : PAM X (e::es) ars) (hnd : (ownsOf ars).Nodup:=by decide) (hex : X.ex = []:=by rfl) (hg : Gl X x:=by rfl)
  (hdb : (x == ("__debug__" : Str)) = false:=by decide) (he : starEach (e::es) X.env = (false,eval e X.env)::starEach es X.env:=by rfl) (hpl : (backTo pos (starEach es X.env)).any (·.1) = false:=by rfl)
  (hs : swapsWith (.Call (.Name x p) (e::es) [] pos) none pos2.line X.env = pure false:=by rfl) :
  PSD X (.Expr (.Call (.Name x p) (e::es) [] pos) pos2) (sDropE M ars):=by
 obtain ⟨f,fd,F,hb,hk,hm⟩:=F
 obtain ⟨ta,pa,ka⟩:=ha
 refine ⟨_,ps_expr (pe_callE F hr hex hg hm hk hb pa hdb he hpl) hs,fun B G H δ σ o D sG sB rs0 ef w=>?_⟩
 unfold sDropE at ef
 obtain ⟨ags,e1,ef⟩:=obE ef
 obtain ⟨c,e2,rfl⟩:=omE ef
 refine ka B G H δ σ ags _ sG rs0 e1 fun vs G1 H1 g1 ar=>?_
 have rs:=rs0.grow g1
 have sB1 : Same B H1:=sB.trans g1.h
 obtain ⟨as,aa⟩:=aarg_of rs ar
 obtain ⟨l1,l2⟩:=aa.len
 refine ⟨fun ev oc H'=>∃ C od G',oc = some (pr2 C od) /\ PySem.W.nsIn X.K mainGlobals c.n = some (some (.ref C)) /\ Stp (lessOwn σ (ownsOf ars) H1) G1 G' H' /\ Pay X.K G' c od,⟨_,G1,mkS ags as,c,g1.s,lessOwn_same,aarg_repS rs aa hnd,outE_spec e2 as l1,fun e C od G' H' hC st hP=>⟨C,od,G',rfl,hC,st,hP⟩⟩,?_⟩
 rintro pins s' e C od H' I Fl ⟨C',od',G',eC,hC,st,hP⟩
 obtain ⟨rfl,rfl⟩:=pr2_inj (Option.some.inj eC)
 have notOwn : ∀ a o,B a = some o->¬ ∃ j ∈ ownsOf ars,σ[j]? = some (some (V.ref a)):=fun a o eB ⟨j,hj,ej⟩=>by
  obtain ⟨m,o',ed⟩:=aa.owns hj
  obtain ⟨v,w1,a2,us,rfl,w2,_⟩:=rs.at_ j _ ed
  rw [ej] at w1
  cases w1
  rw [w2] at eB
  cases eB
 have stp : Stp B G1 G' H':=⟨st.g,st.s,fun a o eB=>st.b a o (by rw [lessOwn_some (notOwn a o eB)]; exact sB1 a o eB),fun a o eB n=>st.n a o (by rw [lessOwn_some (notOwn a o eB)]; exact sB1 a o eB) n⟩
 exact w pins σ G' H' s' e C od I ((g1.stp sB).trans stp) (RepS.bare rs.len) hC hP Fl
end
abbrev Cx.held (X : Cx) (e : Addr) : Cx:={ X with A:=X.A.mark (some (.ref e)),calm:=false,xe:=fun _ _=>False }
section
variable {X : Cx} {pins : List (Addr × Obj)} {σ : St} {H : Hp} {s : Shared}
theorem Inv.held (I : Inv X pins σ H s) (e : Addr) : Inv (X.held e) pins σ H s:=
 ⟨⟨I.ok.mod,I.ok.kind,I.ok.glob,I.ok.blt,I.ok.above,I.ok.inj,I.ok.has,I.ok.cab,(fun z=>Bool.noConfusion z),I.ok.frames,I.ok.stk,I.ok.exf,I.ok.bs,I.ok.bsz,I.ok.noex,I.ok.exfs,I.ok.funs,I.ok.frf⟩,I.os,I.bare,I.base,I.loc,I.cell,I.free,I.freeC,I.pin,I.hok,I.len⟩
theorem Inv.unheld {e : Addr} (I : Inv (X.held e) pins σ H s) (ok : X.Ok) : Inv X pins σ H s:=⟨ok,I.os,I.bare,I.base,I.loc,I.cell,I.free,I.freeC,I.pin,I.hok,I.len⟩
abbrev Cx.tried (X : Cx) (pn : List (Addr × Obj)) (xe : Value->Shared->Prop) : Cx:={ X with pn:=pn,xe:=xe }
theorem Cx.Ok.tried (ok : X.Ok) (pn : List (Addr × Obj)) (xe : Value->Shared->Prop) : (X.tried pn xe).Ok:=
 ⟨ok.mod,ok.kind,ok.glob,ok.blt,ok.above,ok.inj,ok.has,ok.cab,ok.hd,ok.frames,ok.stk,ok.exf,ok.bs,ok.bsz,ok.noex,ok.exfs,ok.funs,ok.frf⟩
theorem Inv.tried (I : Inv X pins σ H s) (xe : Value->Shared->Prop) : Inv (X.tried (X.pn++pins) xe) [] σ H s:=
 ⟨I.ok.tried _ _,I.os,I.bare,I.base,I.loc,I.cell,I.free,I.freeC,fun p hp=>I.pin p (by have hp : p ∈ (X.pn++pins)++[]:=hp; simpa using hp),I.hok,I.len⟩
theorem Inv.untried {xe : Value->Shared->Prop} {pins' : List (Addr × Obj)} (I : Inv (X.tried (X.pn++pins) xe) pins' σ H s) (ok : X.Ok) : Inv X pins σ H s:=
 ⟨ok,I.os,I.bare,I.base,I.loc,I.cell,I.free,I.freeC,fun p hp=>I.pin p (List.mem_append_left _ hp),I.hok,I.len⟩
theorem Inv.gone {j : Nat} {n : Str} {h' : Heap} {m : Str->Option Value} {v : Option Value} {t' : Nat} (I : Inv X pins σ H s) (hm : s.heap.Ns X.env.locals m) (hN : X.N.Nodup) (hj : X.N[j]? = some n) (hk : X.env.kindOf n = some .local) (hn : h'.Ns X.env.locals fun x=>if x = n then v else m x) (hs : Heap.SameBut X.env.locals s.heap h') :
  Inv X pins (σ.set j none) H { s with heap:=h',toks:=t' }:=by
 have old : ∀ b o,X.s₀.heap.get? b = some o->b ≠ X.env.locals:=fun b o e=>Nat.ne_of_lt (Nat.lt_of_lt_of_le (Heap.lt_size e) I.ok.above)
 obtain ⟨m0,hm0,hl⟩:=id I.loc
 obtain rfl : m0 = m:=by
  obtain ⟨o,es,ep,h1,h2,h3,h4⟩:=hm0
  obtain ⟨o',es',ep',g1,g2,g3,g4⟩:=hm
  rw [h1] at g1; cases g1
  rw [h2] at g2; cases g2
  funext y
  rw [<- h4,<- g4]
 refine ⟨I.ok,I.os,I.bare,⟨fun b o e n hb hx=>(hs.2 b (old b o e)).trans (I.base.keep b o e n hb hx),fun b o e n hb hx=>?_,I.base.free,fun b o e hx=>?_,I.base.tups,I.base.frzs,I.base.tbls⟩,⟨_,hn,fun i y w e1 e2 e3=>?_⟩,fun y c e=>?_,I.free,I.freeC,fun p hp=>?_,fun b u q=>?_,by simpa using I.len⟩
 ·obtain ⟨sl,e1⟩:=I.base.slot b o e n hb hx
  exact ⟨sl,(hs.2 b (old b o e)).trans e1⟩
 ·obtain ⟨o',e1⟩:=I.base.there b o e hx
  exact ⟨o',(hs.2 b (old b o e)).trans e1⟩
 ·rcases get_set e2 with ⟨_,z⟩ | ⟨hij,e2⟩
  ·cases z
  ·obtain ⟨u,r,q⟩:=hl i y w e1 e2 e3
   refine ⟨u,r,?_⟩
   have hy : y ≠ n:=fun z=>hij (nodup_ix hN hj (z ▸ e1))
   rcases q with ⟨k,e⟩ | ⟨k,c,e,z⟩
   ·exact .inl ⟨k,by simp [hy,e]⟩
   ·exact .inr ⟨k,c,e,z.sameBut hs (I.cne y c e)⟩
 ·obtain ⟨w',z⟩:=I.cell y c e
  exact ⟨w',z.sameBut hs (I.cne y c e)⟩
 ·obtain ⟨e,nn,ne,nf,d⟩:=I.pin p hp
  exact ⟨(hs.2 p.1 ne).trans e,nn,ne,nf,d⟩
 ·refine (I.hok b u q).stay (fun c w' hc z=>(hs.2 c ?_).trans z) (fun _ z=>z) fun _ _ z=>z
  rintro rfl
  have:=I.free
  rcases hc with z | z
  ·rw [<- z,this] at q; cases q
  ·rw [this] at z; cases z
end
def CatchC (K : PySem.W.Frag) (r c : Str) : Prop:=∃ R C,PySem.W.nsIn K mainGlobals r = some (some (.ref R)) /\ PySem.W.nsIn K mainGlobals c = some (some (.ref C)) /\ ExcC K C /\ PySem.W.exmOne K (.ref C) (.ref R) = some true
section
variable {X : Cx} {r n : Str} {j : Nat} {F Fh : FS} {cs : List Str} {body suite : List Stmt} {b₀ : Stmt} {np hpos pos : Pos}
@[simp] def sTry (cs : List Str) (j : Nat) (F Fh : FS) : FS:=fun δ=>match F δ with
 | some (.ex c δ')=>if cs.contains c.n = true then (match Fh (δ'.set j (some (.ob c))) with | some (.nx δ2)=>some (.nx (δ2.set j none)) | _=>none) else none
 | o=>o
theorem RepS.gone {K : PySem.W.Frag} {B G H : Hp} {δ : En} {σ : St} (rs : RepS K B G H δ σ) (j : Nat) : RepS K B G H (δ.set j none) (σ.set j none):=by
 refine ⟨by simp [rs.len],fun i x e=>?_,fun i l x y o o' hil e1 e2=>?_⟩
 ·rcases get_set e with ⟨_,z⟩ | ⟨hj,e⟩
  ·cases z
  ·obtain ⟨v,h1,h2⟩:=rs.at_ i x e
   exact ⟨v,by rw [List.getElem?_set_ne hj]; exact h1,h2⟩
 ·rcases get_set e1 with ⟨_,z⟩ | ⟨hj,e1⟩
  ·cases z
  ·rcases get_set e2 with ⟨_,z⟩ | ⟨hj2,e2⟩
   ·cases z
   ·rw [List.getElem?_set_ne hj,List.getElem?_set_ne hj2]
    exact rs.ap i l x y o o' hil e1 e2
theorem psd_try (j : Nat) (hN : X.N.Nodup) (hb : ∀ pn xe,PSsD (X.tried pn xe) body F) (hh : ∀ e,PSsD (X.held e) (b₀::suite) Fh) (hcs : ∀ c ∈ cs,CatchC X.K r c)
  (hst : X.stack = X.env::X.outer:=by rfl) (hfr : X.env.frame = some X.env.locals:=by rfl) (hg : Gl X r:=by rfl) (hdb : (r == ("__debug__" : Str)) = false:=by decide)
  (hj : X.N[j]? = some n:=by rfl) (hk : X.env.scope.names.lookup n = some .local:=by rfl) :
  PSD X (.Try body [.ExceptHandler (some (.Name r np)) (some n) (b₀::suite) hpos] [] [] pos) (sTry cs j F Fh):=by
 refine ⟨fun D σ H=>∃ B G δ o,Same G H /\ Same B H /\ RepS X.K B G H δ σ /\ sTry cs j F Fh δ = some o /\ Want X B G D o,?_,fun B G H δ σ o D sG sB rs e w=>⟨B,G,δ,o,sG,sB,rs,e,w⟩⟩
 intro pins s σ H D I ⟨B,G,δ,o,sG,sB,rs,e,w⟩
 refine wpAny_Try_except ?_
 have key : ∀ f s1,SP (X.tried (X.pn++pins) (fun ev s₁=>wpAny (model X.prog X.w) X.A (noteFrame ev X.env) (fun _ s₂=>wpAny (model X.prog X.w) X.A (setFlight ev none) (fun _ s₃=>wpAny (model X.prog X.w) X.A (handleBy ev X.env [.ExceptHandler (some (.Name r np)) (some n) (b₀::suite) hpos]) (SP X pins D) X.xe s₃) X.xe s₂) X.xe s₁)) [] D f s1->SP X pins D f s1:=by
  intro f s1 h
  cases f with
  | next=>obtain ⟨σ',H',J,q⟩:=h; exact ⟨σ',H',J.untried I.ok,q⟩
  | brk=>obtain ⟨σ',H',J,q⟩:=h; exact ⟨σ',H',J.untried I.ok,q⟩
  | cont=>obtain ⟨σ',H',J,q⟩:=h; exact ⟨σ',H',J.untried I.ok,q⟩
  | ret u=>obtain ⟨v,σ',H',J,rv,q⟩:=h; exact ⟨v,σ',H',J.untried I.ok,rv,q⟩
 obtain ⟨tb,pb,kb⟩:=hb (X.pn++pins) (fun ev s₁=>wpAny (model X.prog X.w) X.A (noteFrame ev X.env) (fun _ s₂=>wpAny (model X.prog X.w) X.A (setFlight ev none) (fun _ s₃=>wpAny (model X.prog X.w) X.A (handleBy ev X.env [.ExceptHandler (some (.Name r np)) (some n) (b₀::suite) hpos]) (SP X pins D) X.xe s₃) X.xe s₂) X.xe s₁)
 refine wpAny_mono (pb [] s σ H D (I.tried _) ?_) (fun f s1 h=>?_) fun ev s1 h=>h
 ·unfold sTry at e
  cases eF : F δ with
  | none=>rw [eF] at e; cases e
  | some o1=>
   rw [eF] at e
   refine kb B G H δ σ o1 D sG sB rs eF ?_
   cases o1 with
   | nx δ1=>cases e; exact w
   | bk δ1=>cases e; exact w
   | ct δ1=>cases e; exact w
   | rt rr δ1=>cases e; cases rr <;> exact w
   | ex c δ1=>
    intro pins' σ' G' H' s' e' C' od I' st rs' hC' hP Fl
    dsimp only at e
    split at e
    case isFalse=>cases e
    rename_i hcc
    obtain ⟨R,C,hR,hC,eC,hx⟩:=hcs c.n (by simpa using hcc)
    have hC' : PySem.W.nsIn X.K mainGlobals c.n = some (some (.ref C')):=hC'
    rw [hC] at hC'
    cases hC'
    refine leave_fly2 (X:=X.tried (X.pn++pins) _) I' hst hfr Fl fun h1 I1 F1=>?_
    refine wpAny_handleBy_cons ?_ (by intro z; cases z)
    -- the test
    refine codeAny_handlers_test ?_
    have I2 : Inv (X.held e') pins σ' H' { s' with heap:=h1 }:=(I1.untried I.ok).held e'
    refine ld_glob I2 hg (PySem.W.mg_of I.ok.mod.kin I.ok.mod.glob hR) ?_ hdb
    refine PySem.W.exm_one I2.kIn F1.inst.type hx _ _ _ _ (fun _ _ z=>z) ?_
    show codeAny _ _ _ _ _
    refine codeAny_handlers_suite_as ?_
    refine flight_fly I1 F1 fun h2 I3 F3=>?_
    have I4:=(I3.trackX F3)
    have I5 : Inv (X.held e') pins σ' (upd H' e' (.ext (ExO e' C' od))) { s' with heap:=h2 }:=(I4.untried I.ok).held e'
    refine store_ok (X:=X.held e') (v:=.ref e') I5 hN hj (.inl hk) rfl (fun s6 I6=>?_) (.inr hk)
    have rs2 : RepS X.K B (upd G' e' (.ext (ExO e' C' od))) (upd H' e' (.ext (ExO e' C' od))) δ1 σ':=RepS.new rs' st.s F3.free _
    have st2 : Stp B G (upd G' e' (.ext (ExO e' C' od))) (upd H' e' (.ext (ExO e' C' od))):=stp_new st F3.free
    have rs3 : RepS X.K B (upd G' e' (.ext (ExO e' C' od))) (upd H' e' (.ext (ExO e' C' od))) (δ1.set j (some (.ob c))) (σ'.set j (some (.ref e'))):=
     rs2.put j (x:=.ob c) ⟨e',C',od,rfl,hC,eC,upd_same,hP.mono (same_new _ (st.s.free F3.free))⟩ fun m _ z=>nomatch z
    split at e
    case h_2=>cases e
    rename_i δ2 eh
    cases e
    obtain ⟨th,ph,kh⟩:=hh e'
    refine wpAny_mono (ph pins s6 _ _ { nx:=fun σ7 H7=>∃ G7,Stp B G G7 H7 /\ RepS X.K B G7 H7 δ2 σ7,rt:=fun _ _=>False } I6 (kh B _ _ _ _ _ _ st2.s st2.b rs3 eh fun σ7 G7 H7 a ra=>⟨G7,st2.trans a,ra⟩)) (fun f s7 h=>?_) fun _ _ z=>z.elim
    cases f with
    | next=>
     obtain ⟨σ7,H7,I7,G7,st7,rs7⟩:=h
     have I8 : Inv X pins σ7 H7 s7:=I7.unheld I.ok
     obtain ⟨m,hm,_⟩:=id I8.loc
     show wpAny _ _ (bindName X.env n Value.none >>= fun _=>unbindBehindTheSuite X.env n hpos) _ _ _
     refine wpAny_nameGoes_keeps hk hm (by rw [I.ok.kind]; rfl) fun h' v hn hs=>?_
     exact ⟨_,H7,I8.gone hm hN hj hk hn hs,w _ G7 H7 st7 (rs7.gone j)⟩
    | brk=>obtain ⟨_,_,_,z⟩:=h; exact z.elim
    | cont=>obtain ⟨_,_,_,z⟩:=h; exact z.elim
    | ret u=>obtain ⟨_,_,_,_,_,z⟩:=h; exact z.elim
 ·cases f with
  | next=>exact wpAny_execs_nil (key _ _ h)
  | brk=>exact key _ _ h
  | cont=>exact key _ _ h
  | ret u=>exact key _ _ h
end
def ExH (H : Hp) (a C : Addr) : Prop:=∃ od,H a = some (.ext (ExO a C od)) /\ ∀ dx,od = some dx->∃ fs,H dx = some (.xd fs)
theorem ExH.i {X : Cx} {pins : List (Addr × Obj)} {σ : St} {H : Hp} {s : Shared} {a C : Addr} (x : ExH H a C) (I : Inv X pins σ H s) : ExI a C s.heap:=by
 obtain ⟨od,h1,h2⟩:=x
 refine ExO.i (I.hok a _ h1).1 fun dx e=>?_
 obtain ⟨fs,h3⟩:=h2 dx e
 exact ObjOk.is (I.hok dx _ h3)
theorem ExH.of {K : PySem.W.Frag} {G H : Hp} {a C : Addr} {c : Ex} {od : Option Addr} (s : Same G H) (h : G a = some (.ext (ExO a C od))) (p : Pay K G c od) : ExH H a C:=
 ⟨od,s _ _ h,fun dx e=>by subst e; obtain ⟨vs,q,_⟩:=p; exact ⟨_,s _ _ q⟩⟩
theorem ExH.upd {H : Hp} {a C tp : Addr} {o : HO} (x : ExH H a C) (n : H tp = none) : ExH (L2.upd H tp o) a C:=by
 obtain ⟨od,h1,h2⟩:=x
 exact ⟨od,by rw [upd_ne (ne_of_none h1 n)]; exact h1,fun dx e=>let ⟨fs,q⟩:=h2 dx e; ⟨fs,by rw [upd_ne (ne_of_none q n)]; exact q⟩⟩
section
variable {X : Cx} {x y r : Str} {p px pr pos pos' : Pos} {e : Expr}
@[simp] def sCpy (i j : Nat) : FS:=fun δ=>match δ[j]? with | some (some (.ob c))=>some (.nx (δ.set i (some (.ob c)))) | _=>none
theorem pe_clsK {R : Addr} (hR : PySem.W.nsIn X.K mainGlobals r = some (some (.ref R))) (hg : Gl X r) (hd : (r == ("__debug__" : Str)) = false) : PE X (.Name r pr) (tC (.ref R)):=
 fun pins s σ H Q I h=>ld_glob I hg (PySem.W.mg_of I.ok.mod.kin I.ok.mod.glob hR) ⟨.ref R,H,I,rfl,h⟩ hd
@[simp] def fIsOb (i : Nat) (tbl : List (Str × Bool)) : FE:=fun δ=>match δ[i]? with | some (some (.ob c))=>(tbl.lookup c.n).map .bl | _=>none
def IsOb1 (K : PySem.W.Frag) (r : Str) (tbl : List (Str × Bool)) : Prop:=∃ R,PySem.W.nsIn K mainGlobals r = some (some (.ref R)) /\ ∀ c b,tbl.lookup c = some b->∃ C,PySem.W.nsIn K mainGlobals c = some (some (.ref C)) /\ PySem.W.kitOne K (.ref C) (.ref R) = some b
theorem pd_isOb1 (i : Nat) {tbl : List (Str × Bool)} (hT : IsOb1 X.K r tbl) (hm : X.mg "isinstance" = none) (hi : X.N[i]? = some x:=by rfl) (hv : Vis X.env.scope x:=by first | exact Or.inl rfl | exact Or.inr (Or.inl rfl) | exact Or.inr (Or.inr rfl)) (hd : (x == ("__debug__" : Str)) = false:=by decide)
  (hcd : (x == ("__classdict__" : Str)) = false:=by decide) (hg : Gl X "isinstance":=by rfl) (hgr : Gl X r:=by rfl) (hdr : (r == ("__debug__" : Str)) = false:=by decide)
  (hs : starEach [.Name x px,.Name r pr] X.env = (false,eval (.Name x px) X.env)::starEach [.Name r pr] X.env:=by rfl) (hs2 : starEach [.Name r pr] X.env = (false,eval (.Name r pr) X.env)::starEach [] X.env:=by rfl) (hpl : (backTo pos (starEach [.Name r pr] X.env)).any (·.1) = false:=by rfl)
  (hb : bootBuiltins "isinstance" = some (.builtin "isinstance"):=by decide +kernel) : PD X (.Call (.Name "isinstance" p) [.Name x px,.Name r pr] [] pos) (fIsOb i tbl):=by
 obtain ⟨R,hR,hT⟩:=hT
 have hc : CallR X (.builtin "isinstance") (fun xs H Q=>∃ a C b,xs = [.ref a,.ref R] /\ ExH H a C /\ ExcC X.K C /\ PySem.W.kitOne X.K (.ref C) (.ref R) = some b /\ Q (.bl b) H):=by
  intro pins s σ H xs us Q I r h
  obtain ⟨a,C,b,rfl,hH,eC,hk,q⟩:=h
  obtain ⟨u,w',rfl,r1,r2⟩:=vals2 r
  cases (show u = Value.ref a from r1)
  cases (show w' = Value.ref R from r2)
  exact PySem.W.kia_one (kitx_exc eC) I.kIn (hH.i I) hk (by intro z; cases z) fun tk=>⟨.bl b,H,I.tok tk,rfl,q⟩
 refine ⟨_,pe_callB hc hg hm hb (pa_cons (pe_var hi hv hd hcd) (pa_cons (pe_clsK hR hgr hdr) pa_nil hs2) hs) (by decide) (by decide) hs hpl,fun B G H δ σ d Q sG rs ef k=>?_⟩
 unfold fIsOb at ef
 split at ef
 ·rename_i c ed
  obtain ⟨b,e1,rfl⟩:=omE ef
  obtain ⟨v,h1,a,C,od,rfl,hC,eC,hG,hP⟩:=rs.at_ i _ ed
  obtain ⟨C',hC',hk⟩:=hT c.n b e1
  rw [hC] at hC'
  cases hC'
  exact ⟨_,h1,a,C,b,rfl,ExH.of sG hG hP,eC,hk,k _ G H (Grow.refl sG) (by simp [Rep])⟩
 ·cases ef
def NsAll (K : PySem.W.Frag) (rs : List Str) (Rs : List Addr) : Prop:=Paired (fun (r : Str) (R : Addr)=>PySem.W.nsIn K mainGlobals r = some (some (.ref R))) rs Rs
def IsObT (K : PySem.W.Frag) (rs : List Str) (tbl : List (Str × Bool)) : Prop:=∃ Rs,NsAll K rs Rs /\ rs.length <= 100 /\ ∀ c b,tbl.lookup c = some b->∃ C,PySem.W.nsIn K mainGlobals c = some (some (.ref C)) /\ PySem.W.kitAny K (.ref C) (Rs.map Value.ref) = some b
def PAC (X : Cx) (es : List Expr) (rs : List Str) : Prop:=∀ Rs,NsAll X.K rs Rs->PA X es (fun σ H Q=>Q (Rs.map V.ref) H)
theorem pac_nil : PAC X [] []:=fun Rs h=>by cases h; exact fun pos pins s σ H Q I q=>pa_nil pos pins s σ H Q I q
theorem pac_cons {es : List Expr} {rs : List Str} (hr : PAC X es rs) (hg : Gl X r:=by rfl) (hd : (r == ("__debug__" : Str)) = false:=by decide) (hs : starEach (.Name r pr::es) X.env = (false,eval (.Name r pr) X.env)::starEach es X.env:=by rfl) : PAC X (.Name r pr::es) (r::rs):=fun Rs h=>by
 cases h with
 | cons h1 h2=>exact fun pos pins s σ H Q I q=>pa_cons (pe_clsK h1 hg hd) (hr _ h2) hs pos pins s σ H Q I q
theorem vals_refs : ∀ {Rs : List Addr} {us : List Value},Vals (Rs.map V.ref) us->us = Rs.map Value.ref
 | [],_,h=>by cases h; rfl
 | R::Rs,_,h=>by
  cases h with
  | cons h1 h2=>rw [vals_refs h2]; cases (show _ = Value.ref R from h1); rfl
theorem paired_len {α β : Type} {P : α->β->Prop} : ∀ {xs : List α} {ys : List β},Paired P xs ys->xs.length = ys.length:=fun h=>Paired.length h
theorem pd_isObT (i : Nat) {es : List Expr} {ctx} {pt : Pos} {rs : List Str} {tbl : List (Str × Bool)} (hT : IsObT X.K rs tbl) (hm : X.mg "isinstance" = none) (ha : PAC X es rs) (hi : X.N[i]? = some x:=by rfl) (hv : Vis X.env.scope x:=by first | exact Or.inl rfl | exact Or.inr (Or.inl rfl) | exact Or.inr (Or.inr rfl)) (hd : (x == ("__debug__" : Str)) = false:=by decide)
  (hcd : (x == ("__classdict__" : Str)) = false:=by decide) (hg : Gl X "isinstance":=by rfl)
  (hs : starEach [.Name x px,.Tuple es ctx pt] X.env = (false,eval (.Name x px) X.env)::starEach [.Tuple es ctx pt] X.env:=by rfl) (hs2 : starEach [.Tuple es ctx pt] X.env = (false,eval (.Tuple es ctx pt) X.env)::starEach [] X.env:=by rfl) (hpl : (backTo pos (starEach [.Tuple es ctx pt] X.env)).any (·.1) = false:=by rfl)
  (hb : bootBuiltins "isinstance" = some (.builtin "isinstance"):=by decide +kernel) : PD X (.Call (.Name "isinstance" p) [.Name x px,.Tuple es ctx pt] [] pos) (fIsOb i tbl):=by
 obtain ⟨Rs,hR,hl,hT⟩:=hT
 have hc : CallR X (.builtin "isinstance") (fun xs H Q=>∃ a C b tp,xs = [.ref a,.ref tp] /\ ExH H a C /\ H tp = some (.tup (Rs.map V.ref)) /\ ExcC X.K C /\ PySem.W.kitAny X.K (.ref C) (Rs.map Value.ref) = some b /\ Q (.bl b) H):=by
  intro pins s σ H xs us Q I r h
  obtain ⟨a,C,b,tp,rfl,hH,hP,eC,hk,q⟩:=h
  obtain ⟨u,w',rfl,r1,r2⟩:=vals2 r
  cases (show u = Value.ref a from r1)
  cases (show w' = Value.ref tp from r2)
  obtain ⟨_,its,rv,ot,ho,hcl,n,hdt⟩:=I.hok tp _ hP
  rw [vals_refs rv] at hdt
  rcases ot with ⟨c1,d1,dt1,sl1⟩
  cases hcl
  cases hdt
  exact PySem.W.kia_tup (kitx_exc eC) I.kIn (hH.i I) ho hk (by intro z; cases z) fun tk=>⟨.bl b,H,I.tok tk,rfl,q⟩
 refine ⟨_,pe_callB hc hg hm hb (pa_cons (pe_var hi hv hd hcd) (pa_cons (pe_tup (ha Rs hR)) pa_nil hs2) hs) (by decide) (by decide) hs hpl,fun B G H δ σ d Q sG rs' ef k=>?_⟩
 unfold fIsOb at ef
 split at ef
 ·rename_i c ed
  obtain ⟨b,e1,rfl⟩:=omE ef
  obtain ⟨v,h1,a,C,od,rfl,hC,eC,hG,hP⟩:=rs'.at_ i _ ed
  obtain ⟨C',hC',hk⟩:=hT c.n b e1
  rw [hC] at hC'
  cases hC'
  refine ⟨_,h1,by rw [List.length_map,<- paired_len hR]; exact Nat.le_trans hl (by decide),fun tp hp=>?_⟩
  refine ⟨a,C,b,tp,rfl,(ExH.of sG hG hP).upd hp,upd_same,eC,hk,k _ _ _ (Grow.laid sG _ hp) (by simp [Rep])⟩
 ·cases ef
end
def th (a : Addr) (u : HO) (H : Hp) : Hp:=fun b=>if b = a then (H a).map (fun _=>u) else H b
section
variable {X : Cx} {pins : List (Addr × Obj)} {σ : St} {H : Hp} {s : Shared} {a : Addr} {kvs : List (Key × V)} {o : Obj}
end
section
variable {X : Cx} {pins : List (Addr × Obj)} {σ : St} {H : Hp} {s : Shared} {a : Addr} {kvs : List (Key × V)} {o : Obj}
end
section
variable {X : Cx} {tg : Expr} {d : Str} {p pos apos : Pos}
end
section
variable {X : Cx} {F : FS} {B G H : Hp} {δ : En} {σ : St} {o : Out}
end
section
variable {X : Cx} {F : FS} {x d : Str} {p pos pos' apos cpos : Pos} {body : List Stmt}
end
section
variable {X : Cx} {a b e c : Expr} {pos : Pos} {F F' : FS}
end
section
variable {X : Cx} {a b e c : Expr} {pos p1 p2 : Pos} {f : FE}
end
section
variable {K : PySem.W.Frag} {c r : Str} {C R R1 R2 R3 R4 R5 : Addr} {b : Bool}
theorem excC_mk (h1 : PySem.W.findIn K (.ref C) "__getattribute__" = some (some (.builtin "BaseException.__getattribute__"))) (h2 : PySem.W.findIn K (.ref C) "__getattr__" = some none)
  (h3 : ∀ od,PySem.W.findObj K C od "__class__" = some (.bind (.builtin "getset_descriptor.__get__") (.builtin "object.__class__"))) (h4 : PySem.W.mroIn K C (.type "object") = some true) (h5 : PySem.W.mroIn K C (.type "BaseException") = some true)
  (h6 : PySem.W.kitCls K (.ref C) (.ref C) = some true) : ExcC K C:=⟨h1,h2,h3,h4,h5,h6⟩
theorem raiseC_mk (a : PySem.W.nsIn K mainGlobals c = some (some (.ref C))) (e : ExcC K C) (x : PySem.W.excIn K C bmV "ValueError.__new__" = true) : RaiseC K c:=⟨C,a,e,x⟩
theorem catch_nil : ∀ c ∈ ([] : List Str),CatchC K r c:=fun _ h=>nomatch h
theorem catch_cons {cs : List Str} (a : PySem.W.nsIn K mainGlobals r = some (some (.ref R))) (a2 : PySem.W.nsIn K mainGlobals c = some (some (.ref C))) (e : ExcC K C) (x : PySem.W.exmOne K (.ref C) (.ref R) = some true) (t : ∀ c ∈ cs,CatchC K r c) : ∀ c' ∈ c::cs,CatchC K r c':=fun c' h=>by
 rcases List.mem_cons.mp h with rfl | h
 ·exact ⟨R,C,a,a2,e,x⟩
 ·exact t c' h
theorem lk1 {c c' : Str} {b b' : Bool} (h : List.lookup c' [(c,b)] = some b') : c' = c /\ b' = b:=by
 unfold List.lookup at h
 split at h
 ·rename_i e; cases h; exact ⟨by simpa using e,rfl⟩
 ·cases h
theorem isOb1_mk (a : PySem.W.nsIn K mainGlobals r = some (some (.ref R))) (a2 : PySem.W.nsIn K mainGlobals c = some (some (.ref C))) (k : PySem.W.kitOne K (.ref C) (.ref R) = some b) : IsOb1 K r [(c,b)]:=
 ⟨R,a,fun c' b' h=>by obtain ⟨rfl,rfl⟩:=lk1 h; exact ⟨C,a2,k⟩⟩
theorem nsAll_nil : NsAll K [] []:=.nil
theorem nsAll_cons {rs : List Str} {Rs : List Addr} (a : PySem.W.nsIn K mainGlobals r = some (some (.ref R))) (t : NsAll K rs Rs) : NsAll K (r::rs) (R::Rs):=.cons a t
theorem isObT_mk {rs : List Str} {Rs : List Addr} (n : NsAll K rs Rs) (hl : rs.length <= 100) (a2 : PySem.W.nsIn K mainGlobals c = some (some (.ref C))) (k : PySem.W.kitAny K (.ref C) (Rs.map Value.ref) = some b) : IsObT K rs [(c,b)]:=
 ⟨Rs,n,hl,fun c' b' h=>by obtain ⟨rfl,rfl⟩:=lk1 h; exact ⟨C,a2,k⟩⟩
end
section
variable {prog : Program} {w : World} {A : Around} {E : Value->Shared->Prop} {h : Heap} {g : Array GenState} {d : Drawn} {t : Nat} {os : OsState} {C fI : Addr}
end
open PySem PySem.Spec PyProof.Rows PySem.Builtin PySem.Builtin.ObjectAttr
section
variable {prog : Program} {w : World} {A : Around} {E : Value->Shared->Prop} {s : Shared} {K : PySem.W.Frag} {e C : Addr} {ox : Obj} {name : Str} {v : Value}
end
section
variable {X : Cx} {o value : Expr} {f : Str} {pos pos' : Pos} {ta tv : TE}
end
section
variable {X : Cx} {e0 : Expr} {np cpos pos : Pos} {c attr : Str} {C f : Addr} {fd : FuncData} {ps : List Str} {k : Nat} {ta : TA}
end
section
variable {X : Cx} {x attr : Str} {e : Expr} {p pos : Pos} {ta : TE}
end
section
variable {X : Cx} {c : En->Option Bool} {F : FS} {e : Expr} {body : List Stmt} {pos : Pos}
end
section
variable {X : Cx}
end
section
variable {X : Cx}
end
section
variable {X : Cx}
end
section
variable {X : Cx} {pins : List (Addr × Obj)} {σ : St} {H : Hp} {s : Shared} {a b : Addr} {A : Around} {E : Value->Shared->Prop} {ts : List (List Key)} {as : List Addr} {k : List Key}
end
section
variable {X : Cx} {pos pos' : Pos} {o i : Expr} {td ty : TE}
end
open Classical in
section
variable {X : Cx} {x : Str} {pos pos' p pt pv : Pos}
end
section
variable {prog : Program} {w : World} {A : Around} {E : Value->Shared->Prop} {s : Shared} {it d : Addr} {i ep : Nat} {es : Array DictEntry}
end
section
variable {X : Cx}
end
open PySem PySem.W PyProof.Rows
section
variable {lt : Nat->Nat->Bool}
def ix (p : Array Nat) (i : Nat) : Nat:=p.getD i 0
end
open PySem PySem.Spec PySem.W PyProof.Rows
mutual
def ltA : D->D->Option Bool
 | .int i,y=>match y with | .int j=>some (decide (i < j)) | _=>none
 | .str x,y=>match y with | .str z=>some (decide (x.cps.toList < z.cps.toList)) | _=>none
 | .tup xs,y=>match y with | .tup ys=>ltAs xs ys | _=>none
 | .lst xs,y=>match y with | .lst ys=>ltAs xs ys | _=>none
 | .non,_=>none
 | .bl _,_=>none
 | .dic _ _,_=>none
 | .obj _ _ _,_=>none
def ltAs : List D->List D->Option Bool
 | [],ys=>some (!ys.isEmpty)
 | x::xs,ys=>match ys with | []=>some false | y::ys=>if eqA x y = true then ltAs xs ys else ltA x y
end
def ltE : D->D->Option D:=fun x y=>if plainN 8 x = true /\ plainN 8 y = true then (ltA x y).map .bl else none
open PySem
open PySem.AutoSeq1 (wpAny_loadPart')
open PySem.MeetsSeq PySem.MeetsSeq2 PySem.MeetsSeq3 PySem.SeqRoads2 PySem.SeqAt
def LtRc (A : Around) (s : Shared) (y x : Value) (b : Bool) : Prop:=
 ∀ (prog : Program) (w : World) (E : Value->Shared->Prop) (Q : Value->Shared->Prop),Q (.bool b) s->wpAny (model prog w) A (richCompare .Lt y x) Q E s
def lexF (e t : Nat->Bool) (fin : Bool) : List Nat->Bool
 | []=>fin
 | j::js=>if e j = true then lexF e t fin js else t j
theorem tuple_ltAt (l b : Addr) (items items2 : Array Value) (n n2 : Nat) (dd dd2 : Option Addr) (sl sl2 : Array (Option Value)) (e t : Nat->Bool) :
  Meets (Builtin.«tuple.__lt__» ⟨[.ref l,.ref b],[]⟩)
   (fun A R s=>s.heap.get? l = some { cls:=.type "tuple",dict:=dd,data:=.seq items n,slots:=sl } /\ s.heap.get? b = some { cls:=.type "tuple",dict:=dd2,data:=.seq items2 n2,slots:=sl2 } /\
    (∀ j (h1 : j < items.size) (h2 : j < items2.size),EqAt A.in1 s items[j] items2[j] (e j)) /\ (∀ j (h1 : j < items.size) (h2 : j < items2.size),(∀ m,m < j->e m = true)->e j = false->LtRc A.in1 s items[j] items2[j] (t j)) /\
    R (.ok (.ret (.bool (lexF e t (decide (items.size < items2.size)) (List.range (min items.size items2.size)))))) s):=
 .of_wp fun prog w A R s h=>by
  obtain ⟨hp,g,d,tk,os⟩:=s; obtain ⟨hl,hb,he,ht,h⟩:=h
  have f2:=AutoSeq1.sub_tuple_tuple
  have hZ : (items.toList.zip items2.toList).length = min items.size items2.size:=by simp
  wp_walk using wpAny_loadPart' hl,wpAny_loadPart' hb,wpAny_forIn_list _ (fun rest b s'=>b.1 = none /\ s' = ⟨hp,g,d,tk,os⟩ /\ ∃ i,rest = (items.toList.zip items2.toList).drop i /\ (∀ m,m < i->e m = true) /\
   R (.ok (.ret (.bool (lexF e t (decide (items.size < items2.size)) ((List.range (min items.size items2.size)).drop i))))) ⟨hp,g,d,tk,os⟩) _
  case turn=>
   rintro ⟨y,x⟩ rest b s' ⟨hb',rfl,i,hz,hal,hR⟩
   have hlt : i < (items.toList.zip items2.toList).length:=by
    rcases Nat.lt_or_ge i (items.toList.zip items2.toList).length with h' | h'
    ·exact h'
    ·rw [List.drop_of_length_le h'] at hz; cases hz
   have hm : i < min items.size items2.size:=hZ ▸ hlt
   have h1 : i < items.size:=Nat.lt_of_lt_of_le hm (Nat.min_le_left _ _)
   have h2 : i < items2.size:=Nat.lt_of_lt_of_le hm (Nat.min_le_right _ _)
   rw [List.drop_eq_getElem_cons hlt] at hz
   injection hz with hyx hrest
   have hy : y = items[i]:=by have:=congrArg Prod.fst hyx; simpa using this
   have hx : x = items2[i]:=by have:=congrArg Prod.snd hyx; simpa using this
   subst hy hx
   have hd : (List.range (min items.size items2.size)).drop i = i::(List.range (min items.size items2.size)).drop (i + 1):=by simp [List.drop_eq_getElem_cons,hm]
   rw [hd] at hR
   refine wpAny_bind (he i h1 h2 prog w _ _ ?_)
   cases hy : e i with
   | true=>
    have hR : R (.ok (.ret (.bool (lexF e t (decide (items.size < items2.size)) ((List.range (min items.size items2.size)).drop (i + 1)))))) ⟨hp,g,d,tk,os⟩:=by
     simpa only [lexF,hy,if_true] using hR
    wp_walk
    exact ⟨rfl,rfl,i + 1,hrest,fun m hm'=>(Nat.lt_succ_iff_lt_or_eq.mp hm').elim (hal m) fun z=>z ▸ hy,hR⟩
   | false=>
    have hR : R (.ok (.ret (.bool (t i)))) ⟨hp,g,d,tk,os⟩:=by
     simpa only [lexF,hy,Bool.false_eq_true,if_false] using hR
    generalize hRC : richCompare = RC
    wp_walk
    subst hRC
    refine ht i h1 h2 hal hy prog w _ _ ?_
    wp_walk
    exact ⟨_,rfl,hR⟩
  case fin=>
   rintro ⟨b1,b2⟩ s' ⟨hb',rfl,i,hz,hal,hR⟩
   simp only at hb'
   subst hb'
   have hge : min items.size items2.size <= i:=by
    rcases Nat.lt_or_ge i (items.toList.zip items2.toList).length with h' | h'
    ·rw [List.drop_eq_getElem_cons h'] at hz; cases hz
    ·exact hZ ▸ h'
   rw [List.drop_of_length_le (by simpa using hge)] at hR
   wp_walk
   exact ⟨_,rfl,by simpa [Builtin.Tuple.tupleCompareSizes,lexF] using hR⟩
  case h=>
   exact ⟨rfl,rfl,0,rfl,fun m hm=>absurd hm (Nat.not_lt_zero m),by simpa using h⟩
theorem lt_loopAt (l b : Addr) (items items2 : Array Value) (n n2 : Nat) (dd dd2 : Option Addr) (sl sl2 : Array (Option Value)) (e t : Nat->Bool) (k : Nat) :
  ∀ i : Nat,min items.size items2.size - i = k->i <= min items.size items2.size->(∀ m,m < i->e m = true)->Meets (Builtin.«list.__eq__.loop» ⟨[.ref l,.ref b,rawInt i,rawInt 0],[]⟩)
   (fun A R s=>s.heap.get? l = some { cls:=.type "list",dict:=dd,data:=.seq items n,slots:=sl } /\ s.heap.get? b = some { cls:=.type "list",dict:=dd2,data:=.seq items2 n2,slots:=sl2 } /\
    (∀ j (h1 : j < items.size) (h2 : j < items2.size),EqAt A.in1 s items[j] items2[j] (e j)) /\ (∀ j (h1 : j < items.size) (h2 : j < items2.size),(∀ m,m < j->e m = true)->e j = false->LtRc A.in1 s items[j] items2[j] (t j)) /\
    R (.ok (.ret (.bool (lexF e t (decide (items.size < items2.size)) ((List.range (min items.size items2.size)).drop i))))) s):=by
 induction k with
 | zero=>
  intro i hk hle hal prog w A R s h
  obtain ⟨hp,g,d,tk,os⟩:=s; obtain ⟨hl,hb,he,ht,h⟩:=h
  wp_walk using wpAny_loadPart' hl,wpAny_loadPart' hb
  have hd : (List.range (min items.size items2.size)).drop i = []:=by simp; omega
  rw [hd] at h
  have hR : R (.ok (.ret (.bool (decide (items.size < items2.size))))) ⟨hp,g,d,tk,os⟩:=h
  by_cases c : i < items.size
  ·have hi1 : items[((i : Nat) : Int).toNat]? = some items[i]:=by simp [c]
   have hi2 : items2[((i : Nat) : Int).toNat]? = none:=by simp; omega
   rw [hi1,hi2]
   wp_walk using wpAny_loadPart' hl,wpAny_loadPart' hb
   exact hR
  ·have hi1 : items[((i : Nat) : Int).toNat]? = none:=by simp; omega
   rw [hi1]
   by_cases c2 : i < items2.size
   ·have hi2 : items2[((i : Nat) : Int).toNat]? = some items2[i]:=by simp [c2]
    rw [hi2]
    wp_walk using wpAny_loadPart' hl,wpAny_loadPart' hb
    exact hR
   ·have hi2 : items2[((i : Nat) : Int).toNat]? = none:=by simp; omega
    rw [hi2]
    wp_walk using wpAny_loadPart' hl,wpAny_loadPart' hb
    exact hR
 | succ k ih=>
  intro i hk hle hal prog w A R s h
  obtain ⟨hp,g,d,tk,os⟩:=s; obtain ⟨hl,hb,he,ht,h⟩:=h
  wp_walk using wpAny_loadPart' hl,wpAny_loadPart' hb
  have hlt : i < items.size:=by omega
  have hlt2 : i < items2.size:=by omega
  have hi1 : items[((i : Nat) : Int).toNat]? = some items[i]:=by simp [hlt]
  have hi2 : items2[((i : Nat) : Int).toNat]? = some items2[i]:=by simp [hlt2]
  have hm : i < min items.size items2.size:=by omega
  have hd : (List.range (min items.size items2.size)).drop i = i::(List.range (min items.size items2.size)).drop (i + 1):=by simp [List.drop_eq_getElem_cons,hm]
  have hc : ((i : Int) + 1) = ((i + 1 : Nat) : Int):=by push_cast; rfl
  rw [hd] at h
  rw [hi1,hi2]
  refine wpAny_bind (he i hlt hlt2 prog w _ _ ?_)
  cases hb' : e i with
  | true=>
   have h : R (.ok (.ret (.bool (lexF e t (decide (items.size < items2.size)) ((List.range (min items.size items2.size)).drop (i + 1)))))) ⟨hp,g,d,tk,os⟩:=by
    simpa only [lexF,hb',if_true] using h
   wp_walk
   rw [hc]
   exact ⟨plainId_quiet plain_eq_loop _,codeAny_builtin entry_eq_loop (by
    rw [Around.under_plainId plain_eq_loop _]
    exact ih (i + 1) (by omega) (by omega) (fun m hm'=>(Nat.lt_succ_iff_lt_or_eq.mp hm').elim (hal m) fun z=>z ▸ hb') prog w A R _ ⟨hl,hb,he,ht,h⟩)⟩
  | false=>
   have h : R (.ok (.ret (.bool (t i)))) ⟨hp,g,d,tk,os⟩:=by
    simpa only [lexF,hb',Bool.false_eq_true,if_false] using h
   generalize hRC : richCompare = RC
   wp_walk using wpAny_loadPart' hl,wpAny_loadPart' hb
   rw [hi1,hi2]
   wp_walk
   subst hRC
   refine ht i hlt hlt2 hal hb' prog w _ _ ?_
   wp_walk
   exact h
theorem list_ltAt (l b : Addr) (items items2 : Array Value) (n n2 : Nat) (dd dd2 : Option Addr) (sl sl2 : Array (Option Value)) (e t : Nat->Bool) :
  Meets (Builtin.«list.__lt__» ⟨[.ref l,.ref b],[]⟩)
   (fun A R s=>s.heap.get? l = some { cls:=.type "list",dict:=dd,data:=.seq items n,slots:=sl } /\ s.heap.get? b = some { cls:=.type "list",dict:=dd2,data:=.seq items2 n2,slots:=sl2 } /\
    (∀ j (h1 : j < items.size) (h2 : j < items2.size),EqAt A.in1 s items[j] items2[j] (e j)) /\ (∀ j (h1 : j < items.size) (h2 : j < items2.size),(∀ m,m < j->e m = true)->e j = false->LtRc A.in1 s items[j] items2[j] (t j)) /\
    R (.ok (.ret (.bool (lexF e t (decide (items.size < items2.size)) (List.range (min items.size items2.size)))))) s):=by
 intro prog w A R s h
 obtain ⟨hp,g,d,tk,os⟩:=s; obtain ⟨hl,hb,he,ht,h⟩:=h
 have f3:=AutoSeq1.sub_list_list
 wp_walk using wpAny_loadPart' hl,wpAny_loadPart' hb
 exact ⟨plainId_quiet plain_eq_loop _,codeAny_builtin entry_eq_loop (by
  rw [Around.under_plainId plain_eq_loop _]
  exact lt_loopAt l b items items2 n n2 dd dd2 sl sl2 e t _ 0 rfl (Nat.zero_le _) (fun m hm=>absurd hm (Nat.not_lt_zero m)) prog w A R _ ⟨hl,hb,he,ht,by simpa using h⟩)⟩
section
variable {A : Around} {s : Shared}
theorem LtRc.lists {l b : Addr} {items items2 : Array Value} {e t : Nat->Bool} (hl : s.heap.IsList l items) (hb : s.heap.IsList b items2) (hu : A.units < cLine)
  (he : ∀ j (h1 : j < items.size) (h2 : j < items2.size),EqAt A.in1 s items[j] items2[j] (e j)) (ht : ∀ j (h1 : j < items.size) (h2 : j < items2.size),(∀ m,m < j->e m = true)->e j = false->LtRc A.in1 s items[j] items2[j] (t j)) :
  LtRc A s (.ref l) (.ref b) (lexF e t (decide (items.size < items2.size)) (List.range (min items.size items2.size))):=fun prog w E Q h=>by
 obtain ⟨⟨cls,dd,data,sl⟩,ho,hc,n,hd⟩:=id hl
 obtain ⟨⟨cls2,dd2,data2,sl2⟩,ho2,hc2,n2,hd2⟩:=id hb
 simp only at hc hd hc2 hd2
 subst hc hd hc2 hd2
 exact richCompare_meets_room (op:=.Lt) ⟨_,ho,rfl⟩ ⟨_,ho2,rfl⟩ F.slot_list_lt F.entry_list_lt (F.args_list_lt_2 _ _) (list_ltAt l b items items2 n n2 dd dd2 sl sl2 e t)
  ⟨ho,ho2,he,ht,show Value.bool _ ≠ Value.notImplemented /\ Q (.bool _) s from ⟨(fun x=>nomatch x),h⟩⟩ hu
theorem LtRc.tuples {l b : Addr} {items items2 : Array Value} {e t : Nat->Bool} (hl : s.heap.IsTuple l items) (hb : s.heap.IsTuple b items2) (hu : A.units < cLine)
  (he : ∀ j (h1 : j < items.size) (h2 : j < items2.size),EqAt A.in1 s items[j] items2[j] (e j)) (ht : ∀ j (h1 : j < items.size) (h2 : j < items2.size),(∀ m,m < j->e m = true)->e j = false->LtRc A.in1 s items[j] items2[j] (t j)) :
  LtRc A s (.ref l) (.ref b) (lexF e t (decide (items.size < items2.size)) (List.range (min items.size items2.size))):=fun prog w E Q h=>by
 obtain ⟨⟨cls,dd,data,sl⟩,ho,hc,n,hd⟩:=id hl
 obtain ⟨⟨cls2,dd2,data2,sl2⟩,ho2,hc2,n2,hd2⟩:=id hb
 simp only at hc hd hc2 hd2
 subst hc hd hc2 hd2
 exact richCompare_meets_room (op:=.Lt) ⟨_,ho,rfl⟩ ⟨_,ho2,rfl⟩ F.slot_tuple_lt F.entry_tuple_lt (F.args_tuple_lt_2 _ _) (tuple_ltAt l b items items2 n n2 dd dd2 sl sl2 e t)
  ⟨ho,ho2,he,ht,show Value.bool _ ≠ Value.notImplemented /\ Q (.bool _) s from ⟨(fun x=>nomatch x),h⟩⟩ hu
theorem LtRc.int (a b : Int) (t u : Tok) : LtRc A s (.int a t) (.int b u) (decide (a < b)):=fun prog w E Q h=>PyProof.Rows.lt_int h
theorem LtRc.str (a b : Str) (t u : Tok) : LtRc A s (.str a t) (.str b u) (decide (a.cps.toList < b.cps.toList)):=fun prog w E Q h=>PyProof.Rows.lt_str h
end
theorem lexF_map (e t : Nat->Bool) (fin : Bool) (f : Nat->Nat) : ∀ l : List Nat,lexF e t fin (l.map f) = lexF (fun j=>e (f j)) (fun j=>t (f j)) fin l
 | []=>rfl
 | j::l=>by
  simp only [List.map_cons,lexF]
  rw [lexF_map e t fin f l]
def eAt (xs ys : List D) (j : Nat) : Bool:=eqA (xs.getD j .non) (ys.getD j .non)
def tAt (xs ys : List D) (j : Nat) : Bool:=(ltA (xs.getD j .non) (ys.getD j .non)).getD false
theorem lex_ltAs : ∀ {xs ys : List D} {b : Bool},ltAs xs ys = some b->lexF (eAt xs ys) (tAt xs ys) (decide (xs.length < ys.length)) (List.range (min xs.length ys.length)) = b
 | [],ys,b,h=>by
  simp only [ltAs,Option.some.injEq] at h
  simp only [List.length_nil,Nat.zero_min,List.range_zero,lexF]
  rw [<- h]
  cases ys <;> simp
 | x::xs,[],b,h=>by
  simp only [ltAs,Option.some.injEq] at h
  simp only [List.length_nil,Nat.min_zero,List.range_zero,lexF]
  rw [<- h]
  simp
 | x::xs,y::ys,b,h=>by
  simp only [ltAs] at h
  have e1 : min (x::xs).length (y::ys).length = min xs.length ys.length + 1:=by simp only [List.length_cons]; omega
  rw [e1,List.range_succ_eq_map,lexF,lexF_map]
  by_cases c : eqA x y = true
  ·rw [if_pos c] at h
   rw [if_pos (show eAt (x::xs) (y::ys) 0 = true from c)]
   have:=lex_ltAs h
   have e2 : decide ((x::xs).length < (y::ys).length) = decide (xs.length < ys.length):=by simp only [List.length_cons,Nat.add_lt_add_iff_right]
   rw [e2]
   exact this
  ·rw [if_neg c] at h
   rw [if_neg (show ¬ eAt (x::xs) (y::ys) 0 = true from c)]
   show (ltA x y).getD false = b
   rw [h]; rfl
theorem first_ltAs : ∀ {xs ys : List D} {b : Bool},ltAs xs ys = some b->∀ j,j < xs.length->j < ys.length->(∀ m,m < j->eAt xs ys m = true)->eAt xs ys j = false->ltA (xs.getD j .non) (ys.getD j .non) = some (tAt xs ys j)
 | [],ys,b,h,j,h1,h2,ha,hf=>absurd h1 (Nat.not_lt_zero j)
 | x::xs,[],b,h,j,h1,h2,ha,hf=>absurd h2 (Nat.not_lt_zero j)
 | x::xs,y::ys,b,h,0,h1,h2,ha,hf=>by
  simp only [ltAs] at h
  rw [if_neg (show ¬ eqA x y = true from fun z=>by rw [show eAt (x::xs) (y::ys) 0 = true from z] at hf; cases hf)] at h
  show ltA x y = some ((ltA x y).getD false)
  rw [h]; rfl
 | x::xs,y::ys,b,h,j + 1,h1,h2,ha,hf=>by
  simp only [ltAs] at h
  rw [if_pos (show eqA x y = true from ha 0 (Nat.zero_lt_succ j))] at h
  exact first_ltAs h j (by simpa using h1) (by simpa using h2) (fun m hm=>ha (m + 1) (by omega)) hf
section
variable {X : Cx} {pins : List (Addr × Obj)} {σ : St} {H : Hp} {s : Shared}
theorem ltRc_A (I : Inv X pins σ H s) : ∀ (n : Nat) {x y : D} {v v' : V} {u u' : Value} {A : Around} {b : Bool},plainN n x = true->plainN n y = true->ltA x y = some b->Rep X.K H x v->Rep X.K H y v'->RelV v u->RelV v' u'->A.units + n < cLine->LtRc A s u u' b:=by
 intro n
 have ff : ∀ {x y : D} {v v' : V} {u u' : Value} {A : Around} {b : Bool},(∀ xs,x ≠ .tup xs)->(∀ xs,x ≠ .lst xs)->ltA x y = some b->Rep X.K H x v->Rep X.K H y v'->RelV v u->RelV v' u'->LtRc A s u u' b:=by
  intro x y v v' u u' A b n1 n2 h rx ry r r'
  cases x with
  | tup xs=>exact absurd rfl (n1 xs)
  | lst xs=>exact absurd rfl (n2 xs)
  | non=>simp only [ltA] at h; cases h
  | bl _=>simp only [ltA] at h; cases h
  | dic _ _=>simp only [ltA] at h; cases h
  | obj _ _ _=>simp only [ltA] at h; cases h
  | int i=>
   cases y <;> simp only [ltA] at h <;> cases h
   simp only [Rep] at rx ry
   subst rx ry
   obtain ⟨t,rfl⟩:=r
   obtain ⟨t',rfl⟩:=r'
   exact LtRc.int _ _ _ _
  | str i=>
   cases y <;> simp only [ltA] at h <;> cases h
   simp only [Rep] at rx ry
   subst rx ry
   obtain ⟨t,rfl⟩:=r
   obtain ⟨t',rfl⟩:=r'
   exact LtRc.str _ _ _ _
 induction n with
 | zero=>
  intro x y v v' u u' A b px py h rx ry r r' hu
  refine ff ?_ ?_ h rx ry r r'
  ·intro xs e; subst e; cases px
  ·intro xs e; subst e; cases px
 | succ n ih=>
  intro x y v v' u u' A b px py h rx ry r r' hu
  have items : ∀ {xs ys : List D} {vs us : List V} {its its2 : List Value},ltAs xs ys = some b->xs.all (plainN n) = true->ys.all (plainN n) = true->RepL X.K H xs vs->RepL X.K H ys us->Vals vs its->Vals us its2->
    ∀ j (h1 : j < its.toArray.size) (h2 : j < its2.toArray.size),(∀ m,m < j->eAt xs ys m = true)->eAt xs ys j = false->LtRc A.in1 s its.toArray[j] its2.toArray[j] (tAt xs ys j):=fun {xs ys vs us its its2} hlt p1 p2 r1 r2 v1 v2 j h1 h2 ha hf=>by
   have l1:=r1.length
   have l2:=r2.length
   have l3:=v1.length
   have l4:=v2.length
   have j1 : j < xs.length:=by simp at h1; omega
   have j2 : j < ys.length:=by simp at h2; omega
   have e1 : xs[j]? = some (xs.getD j .non):=by rw [List.getD_eq_getElem?_getD,List.getElem?_eq_getElem j1]; rfl
   have e2 : ys[j]? = some (ys.getD j .non):=by rw [List.getD_eq_getElem?_getD,List.getElem?_eq_getElem j2]; rfl
   obtain ⟨w1,g1,q1⟩:=r1.get e1
   obtain ⟨w2,g2,q2⟩:=r2.get e2
   obtain ⟨u1,k1,k2⟩:=v1.get g1
   obtain ⟨u2,k3,k4⟩:=v2.get g2
   have t1 : its.toArray[j] = u1:=by
    obtain ⟨_,z⟩:=List.getElem?_eq_some_iff.mp k1
    simpa using z
   have t2 : its2.toArray[j] = u2:=by
    obtain ⟨_,z⟩:=List.getElem?_eq_some_iff.mp k3
    simpa using z
   rw [t1,t2]
   exact ih (List.all_eq_true.mp p1 _ (List.mem_of_getElem? e1)) (List.all_eq_true.mp p2 _ (List.mem_of_getElem? e2)) (first_ltAs hlt j j1 j2 ha hf) q1 q2 k2 k4 (by rw [in1_units]; omega)
  cases x with
  | tup xs=>
   cases y <;> simp only [ltA] at h <;> try cases h
   rename_i ys
   simp only [Rep] at rx ry
   obtain ⟨a,vs,rfl,h1,h2⟩:=rx
   obtain ⟨b',us,rfl,h3,h4⟩:=ry
   cases r
   cases r'
   obtain ⟨its,v1,p1,_⟩:=I.tuple h1
   obtain ⟨its2,v2,p2,_⟩:=I.tuple h3
   have q:=LtRc.tuples (A:=A) (e:=eAt xs ys) (t:=tAt xs ys) p1 p2 (by omega) (items_A I n (by rw [in1_units]; omega) px py h2 h4 v1 v2) (items h px py h2 h4 v1 v2)
   have z1 : its.toArray.size = xs.length:=by simp [h2.length,v1.length]
   have z2 : its2.toArray.size = ys.length:=by simp [h4.length,v2.length]
   rw [z1,z2,lex_ltAs h] at q
   exact q
  | lst xs=>
   cases y <;> simp only [ltA] at h <;> try cases h
   rename_i ys
   simp only [Rep] at rx ry
   obtain ⟨a,vs,rfl,h1,h2⟩:=rx
   obtain ⟨b',us,rfl,h3,h4⟩:=ry
   cases r
   cases r'
   obtain ⟨its,v1,p1,_⟩:=I.list h1
   obtain ⟨its2,v2,p2,_⟩:=I.list h3
   have q:=LtRc.lists (A:=A) (e:=eAt xs ys) (t:=tAt xs ys) p1.isList p2.isList (by omega) (items_A I n (by rw [in1_units]; omega) px py h2 h4 v1 v2) (items h px py h2 h4 v1 v2)
   have z1 : its.toArray.size = xs.length:=by simp [h2.length,v1.length]
   have z2 : its2.toArray.size = ys.length:=by simp [h4.length,v2.length]
   rw [z1,z2,lex_ltAs h] at q
   exact q
  | _=>exact ff (fun _ z=>by cases z) (fun _ z=>by cases z) h rx ry r r'
end
section
variable {X : Cx}
def rLtA (K : PySem.W.Frag) : R2:=fun v u H Q=>∃ x y b,Rep K H x v /\ Rep K H y u /\ plainN 8 x = true /\ plainN 8 y = true /\ ltA x y = some b /\ Q (.bl b) H
theorem op_ltA (hu : X.A.units + 20 < cLine) : OpR X (compareOp .Lt) (rLtA X.K):=by
 intro pins s σ H x y v u Q I rx ry h
 obtain ⟨dx,dy,b,r1,r2,p1,p2,e,q⟩:=h
 exact ltRc_A I 8 p1 p2 e r1 r2 rx ry (by omega) X.prog X.w _ _ ⟨.bl b,H,I,rfl,q⟩
theorem od_ltE (hu : X.A.units + 20 < cLine) : OpD X (compareOp .Lt) ltE:=by
 refine ⟨_,op_ltA hu,fun G H x y v u d Q sG rx ry e k=>?_⟩
 unfold ltE at e
 split at e
 ·rename_i hc
  obtain ⟨b,e1,rfl⟩:=omE e
  exact ⟨x,y,b,rx.all sG,ry.all sG,hc.1,hc.2,e1,k _ G H (Grow.refl sG) (by simp [Rep])⟩
 ·cases e
end
section
variable {X : Cx} {pins : List (Addr × Obj)} {σ : St} {H : Hp} {s : Shared}
end
section
variable {X : Cx} {pins : List (Addr × Obj)} {σ : St} {H : Hp} {s : Shared}
end
theorem bools_map {α : Type} (p : α->Bool) : ∀ (xs : List α),bools (xs.map fun x=>D.bl (p x)) = some (xs.map p)
 | []=>rfl
 | x::xs=>by
  show (bools (xs.map fun x=>D.bl (p x))).map (p x::·) = _
  rw [bools_map p xs]
  rfl
def Op {α : Type} (o : Option α) (R : α->Prop) : Prop:=∃ d,o = some d /\ R d
def So (o : Option Out) (N : En->Prop) (T : Rs->En->Prop) : Prop:=∃ u,o = some u /\ match u with | .nx δ=>N δ | .rt r δ=>T r δ | _=>False
theorem op_some {α : Type} {d : α} {R : α->Prop} (k : R d) : Op (some d) R:=⟨d,rfl,k⟩
theorem Op.eq {α : Type} {o : Option α} {d : α} (h : Op o fun x=>x = d) : o = some d:=by obtain ⟨x,e,rfl⟩:=h; exact e
theorem op_of {α : Type} {o : Option α} {d : α} {R : α->Prop} (e : o = some d) (h : R d) : Op o R:=⟨d,e,h⟩
theorem So.mono {o : Option Out} {N N' : En->Prop} {T T' : Rs->En->Prop} (h : So o N T) (k : ∀ δ,N δ->N' δ) (k' : ∀ r δ,T r δ->T' r δ) : So o N' T':=by
 obtain ⟨u,e,h⟩:=h
 refine ⟨u,e,?_⟩
 cases u with
 | nx δ=>exact k δ h
 | rt r δ=>exact k' r δ h
 | bk δ=>exact h
 | ct δ=>exact h
 | ex c δ=>exact h
def IsBl (R : Bool->Prop) : D->Prop | .bl b=>R b | _=>False
def IsIn (R : Int->Prop) : D->Prop | .int b=>R b | _=>False
def IsSq (R : List D->Prop) : D->Prop | .lst xs=>R xs | .tup xs=>R xs | .str z=>R (signs z) | _=>False
def PubR (R : D->Prop) (r : Rs) : Prop:=R r.d
def SetK (N : En->Prop) (δ : En) (i : Nat) (x : Sl) : Prop:=N (δ.set i (some x))
def SetR (N : En->Prop) (δ : En) (i : Nat) (r : Rs) : Prop:=N (δ.set i (some r.sl))
theorem pub_sh {R : D->Prop} {d : D} (k : R d) : PubR R (.sh d):=k
theorem pub_l {R : D->Prop} {xs : List D} (k : R (.lst xs)) : PubR R (.fr (.lst xs)):=k
theorem setK {N : En->Prop} {δ δ' : En} {i : Nat} {x : Sl} (e : δ.set i (some x) = δ') (k : N δ') : SetK N δ i x:=by unfold SetK; rw [e]; exact k
theorem setR_fr {N : En->Prop} {δ : En} {i : Nat} {m : Mo} (k : SetK N δ i (.pv m none)) : SetR N δ i (.fr m):=k
theorem ite_t {A B : Prop} (h : A) : if true = true then A else B:=h
theorem ite_f {A B : Prop} (h : B) : if false = true then A else B:=h
theorem ite_rt {b : Bool} {A B : Prop} (e : b = true) (h : A) : if b = true then A else B:=by rw [if_pos e]; exact h
theorem ite_rf {b : Bool} {A B : Prop} (e : b = false) (h : B) : if b = true then A else B:=by rw [if_neg (by rw [e]; exact Bool.false_ne_true)]; exact h
theorem isBl_k {R : Bool->Prop} {b : Bool} (k : R b) : IsBl R (.bl b):=k
theorem isIn_k {R : Int->Prop} {b : Int} (k : R b) : IsIn R (.int b):=k
theorem isSq_l {R : List D->Prop} {b : List D} (k : R b) : IsSq R (.lst b):=k
theorem isSq_t {R : List D->Prop} {b : List D} (k : R b) : IsSq R (.tup b):=k
theorem isSq_s {R : List D->Prop} {b : Str} (k : R (signs b)) : IsSq R (.str b):=k
section
variable {f g h : FE} {fr : FR} {F F' : FS} {c c' : En->Option Bool} {δ : En} {i j : Nat} {ga : En->Option (List D)} {R : D->Prop} {Rr : Rs->Prop} {N : En->Prop} {T : Rs->En->Prop}
theorem op_f2 {o : D->D->Option D} (k : Op (f δ) fun x=>Op (g δ) fun y=>Op (o x y) R) : Op (f2 o f g δ) R:=by
 obtain ⟨x,e1,y,e2,z,e3,k⟩:=k
 exact ⟨z,by unfold f2; rw [e1,Option.bind_some,e2,Option.bind_some,e3],k⟩
theorem op_f1 {o : D->Option D} (k : Op (f δ) fun x=>Op (o x) R) : Op (f1 o f δ) R:=by
 obtain ⟨x,e1,z,e3,k⟩:=k
 exact ⟨z,by unfold f1; rw [e1,Option.bind_some,e3],k⟩
theorem op_varB {x : Sl} (e : δ[i]? = some (some x)) (k : R x.d) (h : x.ok = true:=by rfl) : Op (fVarB i δ) R:=⟨x.d,by unfold fVarB; rw [e]; exact if_pos h,k⟩
theorem op_var {x : D} (e : δ[i]? = some (some (.sh x))) (k : R x) : Op (fVar i δ) R:=⟨x,by unfold fVar; rw [e],k⟩
theorem op_varBs {d : D} (e : δ[i]? = some (some (.sh d))) (k : R d) : Op (fVarB i δ) R:=op_varB e k
theorem op_C {d : D} (k : R d) : Op (fC d δ) R:=⟨d,rfl,k⟩
theorem op_nil {R : List D->Prop} (k : R []) : Op (fNil δ) R:=⟨_,rfl,k⟩
theorem op_cons {R : List D->Prop} (k : Op (f δ) fun d=>Op (ga δ) fun ds=>R (d::ds)) : Op (fCons f ga δ) R:=by
 obtain ⟨x,e1,y,e2,k⟩:=k
 exact ⟨_,by unfold fCons; rw [e1,Option.bind_some,e2,Option.bind_some],k⟩
theorem op_callR {M : List D->Option Rs} (k : Op (ga δ) fun ds=>Op (M ds) Rr) : Op (fCallR M ga δ) Rr:=by
 obtain ⟨x,e1,y,e2,k⟩:=k
 exact ⟨_,by unfold fCallR; rw [e1,Option.bind_some,e2],k⟩
theorem op_callB {M : List D->Option D} (k : Op (ga δ) fun ds=>Op (M ds) R) : Op (fCallB M ga δ) R:=by
 obtain ⟨x,e1,y,e2,k⟩:=k
 exact ⟨_,by unfold fCallB; rw [e1,Option.bind_some,e2],k⟩
theorem op_pub (k : Op (fr δ) (PubR R)) : Op (fPub fr δ) R:=by
 obtain ⟨x,e1,k⟩:=k
 exact ⟨_,by unfold fPub; rw [e1]; rfl,k⟩
theorem op_sh (k : Op (f δ) fun d=>Rr (.sh d)) : Op (fSh f δ) Rr:=by
 obtain ⟨x,e1,k⟩:=k
 exact ⟨_,by unfold fSh; rw [e1]; rfl,k⟩
theorem op_fB {R : Bool->Prop} (k : Op (f δ) (IsBl R)) : Op (fB f δ) R:=by
 obtain ⟨x,e1,k⟩:=k
 cases x with
 | bl b=>exact ⟨b,by unfold fB; rw [e1],k⟩
 | _=>exact k.elim
theorem op_f3 {o o' : D->D->Option D} (k : Op (f δ) fun x=>Op (g δ) fun y=>Op (o x y) (IsBl fun z=>if z = true then Op (h δ) fun w=>Op (o' y w) R else R (.bl false))) : Op (f3 o o' f g h δ) R:=by
 obtain ⟨x,e1,y,e2,z,e3,k⟩:=k
 cases z with
 | bl b=>
  cases b with
  | true=>
   obtain ⟨w,e4,v,e5,k⟩:=(show Op (h δ) fun w=>Op (o' y w) R from k)
   exact ⟨v,by unfold f3; rw [e1,Option.bind_some,e2,Option.bind_some,e3,Option.bind_some]; dsimp only; rw [e4,Option.bind_some,e5],k⟩
  | false=>exact ⟨_,by unfold f3; rw [e1,Option.bind_some,e2,Option.bind_some,e3,Option.bind_some],k⟩
 | _=>exact k.elim
theorem op_bAnd {R : Bool->Prop} (k : Op (c δ) fun x=>if x = true then Op (c' δ) R else R false) : Op (bAnd c c' δ) R:=by
 obtain ⟨x,e1,k⟩:=k
 cases x with
 | true=>obtain ⟨y,e2,k⟩:=(show Op (c' δ) R from k); exact ⟨y,by unfold bAnd; rw [e1,Option.bind_some,if_pos rfl,e2],k⟩
 | false=>exact ⟨false,by unfold bAnd; rw [e1,Option.bind_some,if_neg Bool.false_ne_true],k⟩
theorem op_bOr {R : Bool->Prop} (k : Op (c δ) fun x=>if x = true then R true else Op (c' δ) R) : Op (bOr c c' δ) R:=by
 obtain ⟨x,e1,k⟩:=k
 cases x with
 | false=>obtain ⟨y,e2,k⟩:=(show Op (c' δ) R from k); exact ⟨y,by unfold bOr; rw [e1,Option.bind_some,if_neg Bool.false_ne_true,e2],k⟩
 | true=>exact ⟨true,by unfold bOr; rw [e1,Option.bind_some,if_pos rfl],k⟩
theorem op_bNot {R : Bool->Prop} (k : Op (c δ) fun x=>R (!x)) : Op (bNot c δ) R:=by
 obtain ⟨x,e1,k⟩:=k
 exact ⟨_,by unfold bNot; rw [e1]; rfl,k⟩
theorem op_fAnd (k : Op (f δ) (IsBl fun x=>if x = true then Op (g δ) R else R (.bl false))) : Op (fAnd f g δ) R:=by
 obtain ⟨x,e1,k⟩:=k
 cases x with
 | bl b=>
  cases b with
  | true=>obtain ⟨y,e2,k⟩:=(show Op (g δ) R from k); exact ⟨y,by unfold fAnd; rw [e1]; exact e2,k⟩
  | false=>exact ⟨_,by unfold fAnd; rw [e1],k⟩
 | _=>exact k.elim
theorem op_fOr (k : Op (f δ) (IsBl fun x=>if x = true then R (.bl true) else Op (g δ) R)) : Op (fOr f g δ) R:=by
 obtain ⟨x,e1,k⟩:=k
 cases x with
 | bl b=>
  cases b with
  | false=>obtain ⟨y,e2,k⟩:=(show Op (g δ) R from k); exact ⟨y,by unfold fOr; rw [e1]; exact e2,k⟩
  | true=>exact ⟨_,by unfold fOr; rw [e1],k⟩
 | _=>exact k.elim
theorem op_fIf (k : Op (c δ) fun x=>if x = true then Op (f δ) R else Op (g δ) R) : Op (fIf c f g δ) R:=by
 obtain ⟨x,e1,k⟩:=k
 cases x with
 | true=>obtain ⟨y,e2,k⟩:=(show Op (f δ) R from k); exact ⟨y,by unfold fIf; rw [e1,Option.bind_some,if_pos rfl,e2],k⟩
 | false=>obtain ⟨y,e2,k⟩:=(show Op (g δ) R from k); exact ⟨y,by unfold fIf; rw [e1,Option.bind_some,if_neg Bool.false_ne_true,e2],k⟩
theorem op_tup (k : Op (ga δ) fun ds=>ds.length <= sizeLine /\ R (.tup ds)) : Op (fTup ga δ) R:=by
 obtain ⟨x,e1,k0,k⟩:=k
 exact ⟨_,by unfold fTup; rw [e1,Option.bind_some,if_pos k0],k⟩
theorem op_lstR (k : Op (ga δ) fun ds=>ds.length <= sizeLine /\ Rr (.fr (.lst ds))) : Op (fLstR ga δ) Rr:=by
 obtain ⟨x,e1,k0,k⟩:=k
 exact ⟨_,by unfold fLstR; rw [e1,Option.bind_some,if_pos k0],k⟩
theorem op_is {s : String} (k : Op (f δ) fun d=>isOb d = false /\ R (.bl (isTy s d))) : Op (fIs s f δ) R:=by
 obtain ⟨x,e1,k0,k⟩:=k
 exact ⟨_,by unfold fIs; rw [e1,Option.bind_some,k0]; rfl,k⟩
theorem op_oInt {R : Option Int->Prop} (k : Op (f δ) (IsIn fun i=>R (some i))) : Op (oInt f δ) R:=by
 obtain ⟨x,e1,k⟩:=k
 cases x with
 | int b=>exact ⟨_,by unfold oInt; rw [e1],k⟩
 | _=>exact k.elim
theorem op_sl {l h : En->Option (Option Int)} (k : Op (f δ) fun x=>Op (l δ) fun lo=>Op (h δ) fun hi=>Op (slA x lo hi) Rr) : Op (fSlA f l h δ) Rr:=by
 obtain ⟨x,e1,y,e2,z,e3,w,e4,k⟩:=k
 exact ⟨w,by unfold fSlA; rw [e1,Option.bind_some,e2,Option.bind_some,e3,Option.bind_some,e4],k⟩
theorem op_oSeq {R : List D->Prop} (k : Op (f δ) (IsSq R)) : Op (oSeq f δ) R:=by
 obtain ⟨x,e1,k⟩:=k
 cases x with
 | lst xs=>exact ⟨_,by unfold oSeq; rw [e1],k⟩
 | tup xs=>exact ⟨_,by unfold oSeq; rw [e1],k⟩
 | str xs=>exact ⟨_,by unfold oSeq; rw [e1],k⟩
 | _=>exact k.elim
theorem op_oRng {R : List D->Prop} (k : Op (f δ) (IsIn fun i=>(-(2 ^ 62) <= i /\ i < 2 ^ 62) /\ R (rngD 0 i.toNat))) : Op (oRng f δ) R:=by
 obtain ⟨x,e1,k⟩:=k
 cases x with
 | int b=>obtain ⟨k0,k⟩:=k; exact ⟨_,by unfold oRng; rw [e1]; dsimp only; rw [if_pos k0],k⟩
 | _=>exact k.elim
theorem op_oRng2 {R : List D->Prop} (k : Op (f δ) (IsIn fun i=>Op (g δ) (IsIn fun j=>(-(2 ^ 62) <= i /\ i < 2 ^ 62 /\ -(2 ^ 62) <= j /\ j < 2 ^ 62) /\ R (rngD i (j - i).toNat)))) : Op (oRng2 f g δ) R:=by
 obtain ⟨x,e1,k⟩:=k
 cases x with
 | int b=>
  obtain ⟨y,e2,k⟩:=k
  cases y with
  | int b'=>obtain ⟨k0,k⟩:=k; exact ⟨_,by unfold oRng2; rw [e1,Option.bind_some,e2,Option.bind_some]; dsimp only; rw [if_pos k0],k⟩
  | _=>exact k.elim
 | _=>exact k.elim
theorem op_comp {nl : Nat} {js : List Nat} {it : En->Option (List D)} {Rr : Rs->Prop} (k : Op (it δ) fun xs=>xs.length <= sizeLine /\ Op (compL (fun x=>c ((csD nl js δ).set i (some (.sh x)))) (fun x=>g ((csD nl js δ).set i (some (.sh x)))) xs) fun ys=>Rr (.fr (.lst ys))) : Op (fComp nl js i it c g δ) Rr:=by
 obtain ⟨x,e1,k0,y,e2,k⟩:=k
 exact ⟨_,by unfold fComp; rw [e1,Option.bind_some,if_pos k0,e2]; rfl,k⟩
theorem op_compY {α : Type} {k : α->D} {hh : α->D} {g : D->Option D} {xs : List α} {R : List D->Prop} (h1 : ∀ x ∈ xs,Op (g (k x)) fun d=>d = hh x) (q : R (xs.map hh)) : Op (compL (fun x=>some true) g (xs.map k)) R:=by
 refine ⟨_,?_,q⟩
 clear q
 induction xs with
 | nil=>rfl
 | cons x xs ih=>
  rw [List.map_cons]
  unfold compL
  rw [(h1 x List.mem_cons_self).eq,ih fun y hy=>h1 y (List.mem_cons_of_mem _ hy)]
  rfl
theorem op_compI {α : Type} {k : α->D} {p : α->Bool} {hh : α->D} {c : D->Option Bool} {g : D->Option D} {xs : List α} {R : List D->Prop} (h0 : ∀ x ∈ xs,Op (c (k x)) fun b=>b = p x) (h1 : ∀ x ∈ xs,p x = true->Op (g (k x)) fun d=>d = hh x) (q : R ((xs.filter p).map hh)) : Op (compL c g (xs.map k)) R:=by
 refine ⟨_,?_,q⟩
 clear q
 induction xs with
 | nil=>rfl
 | cons x xs ih=>
  rw [List.map_cons]
  unfold compL
  rw [(h0 x List.mem_cons_self).eq,Option.bind_some,ih (fun y hy=>h0 y (List.mem_cons_of_mem _ hy)) fun y hy=>h1 y (List.mem_cons_of_mem _ hy)]
  cases e : p x with
  | true=>rw [if_pos rfl,(h1 x List.mem_cons_self e).eq,Option.bind_some,Option.bind_some,List.filter_cons,if_pos e]; rfl
  | false=>rw [if_neg Bool.false_ne_true,List.filter_cons,if_neg (by rw [e]; exact Bool.false_ne_true)]
theorem op_compQ {g : D->Option D} {xs : List D} {Q : D->Prop} {R : List D->Prop} (h1 : ∀ x ∈ xs,Op (g x) Q) (q : ∀ ys : List D,ys.length = xs.length->(∀ y ∈ ys,Q y)->R ys) : Op (compL (fun x=>some true) g xs) R:=by
 have key : ∃ ys,compL (fun x=>some true) g xs = some ys /\ ys.length = xs.length /\ ∀ y ∈ ys,Q y:=by
  clear q
  induction xs with
  | nil=>exact ⟨[],rfl,rfl,fun y hy=>nomatch hy⟩
  | cons x xs ih=>
   obtain ⟨y,e1,q1⟩:=h1 x List.mem_cons_self
   obtain ⟨ys,e2,l2,q2⟩:=ih fun y hy=>h1 y (List.mem_cons_of_mem _ hy)
   refine ⟨y::ys,?_,by simp [l2],fun z hz=>?_⟩
   ·unfold compL; rw [e1,e2]; rfl
   ·rcases List.mem_cons.mp hz with rfl | hz
    ·exact q1
    ·exact q2 z hz
 obtain ⟨ys,e,l,q'⟩:=key
 exact ⟨ys,e,q ys l q'⟩
theorem so_seq (k : So (F δ) (fun δ'=>So (F' δ') N T) T) : So (sSeq F F' δ) N T:=by
 obtain ⟨u,e,k⟩:=k
 cases u with
 | nx δ'=>obtain ⟨w,e2,k⟩:=k; exact ⟨w,by unfold sSeq; rw [e]; exact e2,k⟩
 | rt r δ'=>exact ⟨.rt r δ',by unfold sSeq; rw [e],k⟩
 | bk δ=>exact k.elim
 | ct δ=>exact k.elim
 | ex c δ=>exact k.elim
theorem so_cut (P : En->Prop) (k : So (F δ) P T) (k' : ∀ δ',P δ'->So (F' δ') N T) : So (sSeq F F' δ) N T:=so_seq (k.mono k' fun _ _ h=>h)
theorem so_mid (P : En->Prop) {o : Option Out} (k : So o P T) (k' : ∀ δ',P δ'->N δ') : So o N T:=k.mono k' fun _ _ h=>h
theorem so_if (k : Op (c δ) fun x=>if x = true then So (F δ) N T else So (F' δ) N T) : So (sIf c F F' δ) N T:=by
 obtain ⟨x,e1,k⟩:=k
 cases x with
 | true=>obtain ⟨y,e2,k⟩:=(show So (F δ) N T from k); exact ⟨y,by unfold sIf; rw [e1]; exact e2,k⟩
 | false=>obtain ⟨y,e2,k⟩:=(show So (F' δ) N T from k); exact ⟨y,by unfold sIf; rw [e1]; exact e2,k⟩
theorem so_nil (k : N δ) : So (sNil δ) N T:=⟨_,rfl,k⟩
theorem so_set (k : Op (f δ) fun d=>SetK N δ i (.sh d)) : So (sSet i f δ) N T:=by
 obtain ⟨x,e1,k⟩:=k
 exact ⟨_,by unfold sSet; rw [e1]; rfl,k⟩
theorem so_setR (k : Op (fr δ) fun r=>SetR N δ i r) : So (sSetR i fr δ) N T:=by
 obtain ⟨x,e1,k⟩:=k
 exact ⟨_,by unfold sSetR; rw [e1]; rfl,k⟩
theorem so_ret (k : Op (fr δ) fun r=>T r δ) : So (sRet fr δ) N T:=by
 obtain ⟨x,e1,k⟩:=k
 exact ⟨_,by unfold sRet; rw [e1]; rfl,k⟩
theorem so_app {ds : List D} {o : Option Addr} (e : δ[i]? = some (some (.pv (.lst ds) o))) (k : Op (f δ) fun d=>ds.length < sizeLine /\ SetK N δ i (.pv (.lst (ds++[d])) o)) : So (sApp i f δ) N T:=by
 obtain ⟨x,e1,k0,k⟩:=k
 exact ⟨_,by unfold sApp; rw [e]; dsimp only; rw [e1,Option.bind_some,if_pos k0],k⟩
theorem so_for {it : En->Option (List D)} (k : Op (it δ) fun xs=>So (forL i F xs δ) N T) : So (sFor i it F δ) N T:=by
 obtain ⟨x,e1,u,e2,k⟩:=k
 exact ⟨u,by unfold sFor; rw [e1]; exact e2,k⟩
theorem so_forL (I : Nat->En->Prop) {xs : List D} (h0 : I 0 δ) (st : ∀ k x,xs[k]? = some x->∀ δ,I k δ->So (F (δ.set i (some (.sh x)))) (I (k + 1)) T) (q : ∀ δ,I xs.length δ->N δ) : So (forL i F xs δ) N T:=by
 have key : ∀ (ys : List D) (k : Nat) (δ : En),xs.drop k = ys->k <= xs.length->I k δ->So (forL i F ys δ) (I xs.length) T:=by
  intro ys
  induction ys with
  | nil=>
   intro k δ e hle h
   have hk : xs.length <= k:=by simpa using e
   have : k = xs.length:=by omega
   subst this
   exact ⟨_,rfl,h⟩
  | cons y ys ih=>
   intro k δ e hle h
   have hk : xs[k]? = some y:=by
    have:=congrArg (·[0]?) e
    simpa using this
   have hlt : k < xs.length:=(List.getElem?_eq_some_iff.mp hk).1
   have hd : xs.drop (k + 1) = ys:=by rw [<- List.drop_drop,e]; rfl
   obtain ⟨u,e1,k1⟩:=st k y hk δ h
   cases u with
   | nx δ'=>
    obtain ⟨w,e2,k2⟩:=ih (k + 1) δ' hd hlt k1
    exact ⟨w,by unfold forL; rw [e1]; exact e2,k2⟩
   | rt r δ'=>exact ⟨.rt r δ',by unfold forL; rw [e1],k1⟩
   | bk δ=>exact k1.elim
   | ct δ=>exact k1.elim
   | ex c δ=>exact k1.elim
 exact (key xs 0 δ rfl (Nat.zero_le _) h0).mono q fun _ _ h=>h
theorem so_retVp {m : Mo} {o : Option Addr} (e : δ[i]? = some (some (.pv m o))) (k : T (.fr m) (δ.set i none)) : So (sRetV i δ) N T:=⟨_,by unfold sRetV; rw [e],k⟩
theorem o_add {i j : Int} (k : R (.int (i + j))) : Op (addD (.int i) (.int j)) R:=⟨_,rfl,k⟩
theorem o_sub {i j : Int} (k : R (.int (i - j))) : Op (subD (.int i) (.int j)) R:=⟨_,rfl,k⟩
theorem o_mul {i j : Int} (h : CMul i j) (k : R (.int (i * j))) : Op (mulD (.int i) (.int j)) R:=⟨_,by show (if CMul i j then _ else _) = _; rw [if_pos h],k⟩
theorem o_div {i j : Int} (h : CDiv i j) (k : R (.int (i / j))) : Op (fdivD (.int i) (.int j)) R:=⟨_,by show (if CDiv i j then _ else _) = _; rw [if_pos h],k⟩
theorem o_mod {i j : Int} (h : 0 < j) (k : R (.int (i % j))) : Op (modD (.int i) (.int j)) R:=⟨_,by show (if 0 < j then _ else _) = _; rw [if_pos h],k⟩
theorem o_pow {i j : Int} (h : CPow i j) (k : R (.int (i ^ j.toNat))) : Op (powD (.int i) (.int j)) R:=⟨_,by show (if CPow i j then _ else _) = _; rw [if_pos h],k⟩
theorem o_neg {i : Int} (k : R (.int (-i))) : Op (negD (.int i)) R:=⟨_,rfl,k⟩
theorem o_gt {i j : Int} (k : R (.bl (decide (j < i)))) : Op (gtD (.int i) (.int j)) R:=⟨_,rfl,k⟩
theorem o_le {i j : Int} (k : R (.bl (decide (i <= j)))) : Op (leD (.int i) (.int j)) R:=⟨_,rfl,k⟩
theorem dec_intV {i j : Int} : decide (V.int i = V.int j) = decide (i = j):=decide_eq_decide.mpr ⟨V.int.inj,fun e=>e ▸ rfl⟩
theorem o_eqI {i j : Int} (k : R (.bl (decide (i = j)))) : Op (eqO false (.int i) (.int j)) R:=⟨_,by show some (D.bl (decide (V.int i = V.int j))) = _; rw [dec_intV],k⟩
theorem o_neI {i j : Int} (k : R (.bl (!decide (i = j)))) : Op (eqO true (.int i) (.int j)) R:=⟨_,by show some (D.bl (!decide (V.int i = V.int j))) = _; rw [dec_intV],k⟩
theorem o_neE {x y : D} (k : Op (eqO true x y) R) : Op (neE x y) R:=by
 obtain ⟨d,e,k⟩:=k
 exact ⟨d,by unfold neE; rw [e]; rfl,k⟩
theorem o_neEI {i j : Int} (k : R (.bl (!decide (i = j)))) : Op (neE (.int i) (.int j)) R:=o_neE (o_neI k)
theorem o_lenL {xs : List D} (k : R (.int xs.length)) : Op (lenD [.lst xs]) R:=⟨_,rfl,k⟩
theorem o_lenT {xs : List D} (k : R (.int xs.length)) : Op (lenD [.tup xs]) R:=⟨_,rfl,k⟩
theorem o_tupL {xs : List D} (k : R (.tup xs)) : Op (tupD [.lst xs]) R:=⟨_,rfl,k⟩
theorem o_intB {b : Bool} (k : R (.int (if b then 1 else 0))) : Op (intD [.bl b]) R:=⟨_,rfl,k⟩
theorem o_slL {xs : List D} {lo hi : Option Int} {Rr : Rs->Prop} (k : Rr (.fr (.lst (cutD xs lo hi)))) : Op (slA (.lst xs) lo hi) Rr:=⟨_,rfl,k⟩
theorem o_slT {xs : List D} {lo hi : Option Int} {Rr : Rs->Prop} (k : Rr (.sh (.tup (cutD xs lo hi)))) : Op (slA (.tup xs) lo hi) Rr:=⟨_,rfl,k⟩
theorem o_max {i j : Int} (k : R (.int (if j > i then j else i))) : Op (maxD [.int i,.int j]) R:=⟨_,rfl,k⟩
theorem o_min {i j : Int} (k : R (.int (if j < i then j else i))) : Op (minD [.int i,.int j]) R:=⟨_,rfl,k⟩
theorem o_ixL {xs : List D} {k : Nat} {x : D} (e : xs[k]? = some x) (q : R x) : Op (ixA (.lst xs) (.int k)) R:=⟨x,atI_nat e,q⟩
theorem o_ixT {xs : List D} {k : Nat} {x : D} (e : xs[k]? = some x) (q : R x) : Op (ixA (.tup xs) (.int k)) R:=⟨x,atI_nat e,q⟩
theorem o_ixLm {xs : List D} {i : Int} (h0 : 0 <= i) (h1 : i < xs.length) (q : ∀ x ∈ xs,R x) : Op (ixA (.lst xs) (.int i)) R:=by
 obtain ⟨n,rfl⟩ : ∃ n : Nat,i = n:=⟨i.toNat,by omega⟩
 have hn : n < xs.length:=by omega
 exact o_ixL (List.getElem?_eq_getElem hn) (q _ (List.getElem_mem hn))
theorem op_runE {N : List Str} {n : Nat} {fb : FS} {ds : List D} {R : Rs->Prop} {δ : En} (hl : ds.length = n) (hs : startD N ds = δ) (k : So (fb δ) (fun _=>R (.sh .non)) fun r _=>R r) : Op (runF N n fb ds) R:=by
 subst hs
 obtain ⟨u,e,k⟩:=k
 cases u with
 | nx δ=>exact ⟨_,by unfold runF; rw [if_pos hl,e],k⟩
 | rt r δ'=>exact ⟨_,by unfold runF; rw [if_pos hl,e],k⟩
 | bk δ=>exact k.elim
 | ct δ=>exact k.elim
 | ex c δ=>exact k.elim
end
end L2
local macro_rules | `(tactic| walk_at "wp1")=>`(tactic| first
 | with_reducible refine L2.so_retX ?_
 | with_reducible refine L2.so_unp ?_
 | with_reducible refine L2.op_xFst ?_
 | with_reducible refine L2.op_xNil ?_
 | with_reducible refine L2.op_xCons ?_
 | with_reducible refine L2.op_xTup ?_
 | with_reducible refine L2.op_xCallG ?_
 | with_reducible refine L2.op_xCallT ?_
 | with_reducible refine L2.op_xCallM ?_
 | with_reducible refine L2.op_callM1 ?_
 | with_reducible refine L2.op_xComp ?_
 | ((with_reducible refine L2.so_ext (ds:=?ds) (o:=?o) ?h ?_); case h=>exact rfl)
 | ((with_reducible refine L2.so_lput (ds:=?ds) (o:=?o) ?h ?_); case h=>exact rfl)
 | ((with_reducible refine L2.op_pop (ds:=?ds) (d:=?d) (o:=?o) ?h ?_); case h=>exact rfl)
 | with_reducible refine L2.so_seq ?_
 | with_reducible refine L2.so_set ?_
 | with_reducible refine L2.so_setR ?_
 | with_reducible refine L2.so_setX ?_
 | with_reducible refine L2.so_ret ?_
 | with_reducible refine L2.so_nil ?_
 | with_reducible refine L2.so_for ?_
 | with_reducible refine L2.so_forZ ?_
 | ((with_reducible refine L2.so_retVs (d:=?d) ?h ?_); case h=>exact rfl)
 | ((with_reducible refine L2.so_retVp (o:=?o) (m:=?m) ?h ?_); case h=>exact rfl)
 | ((with_reducible refine L2.so_app (o:=?o) (ds:=?ds) ?h ?_); case h=>exact rfl)
 | ((with_reducible refine L2.so_dput (o:=?o) (ks:=?ks) (ds:=?ds) ?h ?_); case h=>exact rfl)
 | ((with_reducible refine L2.setK (δ':=?δ2) ?h ?_); case h=>dsimp only [List.set]; exact rfl)
 | with_reducible refine L2.setR_sh ?_
 | with_reducible refine L2.setR_fr ?_
 | with_reducible refine L2.pub_sh ?_
 | with_reducible refine L2.pub_l ?_
 | with_reducible refine L2.pub_d ?_
 | with_reducible refine L2.ite_t ?_
 | with_reducible refine L2.ite_f ?_
 | ((with_reducible refine L2.ite_rt ?h ?_); case h=>exact rfl)
 | ((with_reducible refine L2.ite_rf ?h ?_); case h=>exact rfl)
 | with_reducible refine L2.isBl_k ?_
 | with_reducible refine L2.isIn_k ?_
 | with_reducible refine L2.isSq_l ?_
 | with_reducible refine L2.isSq_t ?_
 | with_reducible refine L2.isSq_s ?_
 | with_reducible refine L2.op_f2 ?_
 | with_reducible refine L2.op_f1 ?_
 | ((with_reducible refine L2.op_varBs (d:=?d) ?h ?_); case h=>exact rfl)
 | ((with_reducible refine L2.op_varBl (o:=?o) (xs:=?xs) ?h ?_); case h=>exact rfl)
 | ((with_reducible refine L2.op_varBd (o:=?o) (ks:=?ks) (xs:=?xs) ?h ?_); case h=>exact rfl)
 | ((with_reducible refine L2.op_var (x:=?x) ?h ?_); case h=>exact rfl)
 | ((with_reducible refine L2.op_xSetd (o:=?o) (ks:=?ks) (ds:=?ds) ?h ?_); case h=>exact rfl)
 | with_reducible refine L2.op_C ?_
 | with_reducible refine L2.op_nil ?_
 | with_reducible refine L2.op_cons ?_
 | with_reducible refine L2.op_callR ?_
 | with_reducible refine L2.op_callB ?_
 | with_reducible refine L2.op_callN ?_
 | with_reducible refine L2.op_callG ?_
 | with_reducible refine L2.op_pub ?_
 | with_reducible refine L2.op_sh ?_
 | with_reducible refine L2.op_fB ?_
 | with_reducible refine L2.op_f3 ?_
 | with_reducible refine L2.op_bAnd ?_
 | with_reducible refine L2.op_bOr ?_
 | with_reducible refine L2.op_bNot ?_
 | with_reducible refine L2.op_fAnd ?_
 | with_reducible refine L2.op_fOr ?_
 | with_reducible refine L2.op_fNot ?_
 | with_reducible refine L2.op_fIf ?_
 | with_reducible refine L2.op_bYes ?_
 | with_reducible refine L2.op_tup ?_
 | with_reducible refine L2.op_lstR ?_
 | with_reducible refine L2.op_dicR ?_
 | with_reducible refine L2.op_is ?_
 | with_reducible refine L2.op_oInt ?_
 | with_reducible refine L2.op_sl ?_
 | with_reducible refine L2.op_none ?_
 | with_reducible refine L2.op_some ?_
 | with_reducible refine L2.op_get2 ?_
 | with_reducible refine L2.op_oSeq ?_
 | with_reducible refine L2.op_oRng ?_
 | with_reducible refine L2.op_oRng2 ?_
 | with_reducible refine L2.op_comp ?_
 | with_reducible refine L2.op_xD ?_
 | with_reducible refine L2.op_xIf ?_
 | with_reducible refine L2.op_zip ?_
 | with_reducible refine L2.o_add ?_
 | with_reducible refine L2.o_sub ?_
 | with_reducible refine L2.o_neg ?_
 | with_reducible refine L2.o_lt ?_
 | with_reducible refine L2.o_gt ?_
 | with_reducible refine L2.o_ge ?_
 | with_reducible refine L2.o_le ?_
 | with_reducible refine L2.o_eqI ?_
 | with_reducible refine L2.o_neI ?_
 | with_reducible refine L2.o_neEI ?_
 | with_reducible refine L2.o_lenL ?_
 | with_reducible refine L2.o_lenT ?_
 | with_reducible refine L2.o_tupL ?_
 | with_reducible refine L2.o_tupT ?_
 | with_reducible refine L2.o_intI ?_
 | with_reducible refine L2.o_intB ?_
 | with_reducible refine L2.o_isN ?_
 | with_reducible refine L2.o_slL ?_
 | with_reducible refine L2.o_slT ?_
 | with_reducible refine L2.o_keyI ?_
 | with_reducible refine L2.o_keyS ?_
 | with_reducible refine L2.o_seqT ?_
 | with_reducible refine L2.o_seqL ?_
 | with_reducible refine L2.o_dicN ?_
 | with_reducible refine L2.o_max ?_
 | with_reducible refine L2.o_min ?_
 | ((with_reducible refine L2.o_mul ?h ?_); case h=>first | decide | exact Or.inr (by decide) | exact Or.inl (by decide) | exact ⟨by decide,by decide⟩ | omega)
 | ((with_reducible refine L2.o_div ?h ?_); case h=>first | decide | exact Or.inr (by decide) | exact Or.inl (by decide) | exact ⟨by decide,by decide⟩ | omega)
 | ((with_reducible refine L2.o_mod ?h ?_); case h=>first | decide | exact Or.inr (by decide) | exact Or.inl (by decide) | exact ⟨by decide,by decide⟩ | omega)
 | ((with_reducible refine L2.o_pow ?h ?_); case h=>first | decide | exact Or.inr (by decide) | exact Or.inl (by decide) | exact ⟨by decide,by decide⟩ | omega))
local macro_rules | `(tactic| walk_at "wp")=>`(tactic| repeat first | walk_at "wp1" | with_reducible refine L2.so_if ?_)
local macro_rules | `(tactic| walk_at "wpn")=>`(tactic| repeat walk_at "wp1")
local macro_rules | `(tactic| walk_at "wrun")=>`(tactic| (refine L2.op_runE (δ:=?d) rfl ?h ?_; case h=>simp only [L2.startD,List.map_cons,List.map_nil,List.length_cons,List.length_nil,List.replicate,List.cons_append,List.nil_append,Nat.reduceAdd,Nat.reduceSub]; exact rfl))
local macro_rules | `(tactic| walk_at "wrunM")=>`(tactic| (refine L2.op_runMS (δ:=?d) rfl ?h ?_; case h=>simp only [L2.startS,List.map_cons,List.map_nil,List.length_cons,List.length_nil,List.replicate,List.cons_append,List.nil_append,Nat.reduceAdd,Nat.reduceSub]; exact rfl))
namespace L2
open PySem PySem.Spec PySem.W PyProof.Rows
structure STO {α : Type} (lt : α->α->Bool) : Prop where
 irr : ∀ a,lt a a = false
 tr : ∀ a b c,lt a b = true->lt b c = true->lt a c = true
 tri : ∀ a b,lt a b = false->lt b a = false->a = b
section
variable {α : Type} {lt : α->α->Bool}
theorem STO.asy (h : STO lt) {a b : α} (e : lt a b = true) : lt b a = false:=by
 cases z : lt b a with
 | false=>rfl
 | true=>have:=h.tr _ _ _ e z; rw [h.irr] at this; cases this
theorem STO.ngt (h : STO lt) {a b c : α} (e : lt a b = false) (e' : lt b c = false) : lt a c = false:=by
 cases z : lt a c with
 | false=>rfl
 | true=>
  cases y : lt b a with
  | false=>rw [h.tri _ _ e y,e'] at z; cases z
  | true=>rw [h.tr _ _ _ y z] at e'; cases e'
theorem STO.ne (h : STO lt) {a b : α} (e : lt a b = false) (n : a ≠ b) : lt b a = true:=by
 cases z : lt b a with
 | false=>exact absurd (h.tri _ _ e z) n
 | true=>rfl
variable [DecidableEq α]
end
theorem sto_int : STO (fun a b : Int=>decide (a < b)) where
 irr:=fun a=>by simp
 tr:=fun a b c h1 h2=>by simp only [decide_eq_true_eq] at *; omega
 tri:=fun a b h1 h2=>by simp only [decide_eq_false_iff_not] at *; omega
def sLt (x y : Str) : Bool:=decide (x.cps.toList < y.cps.toList)
theorem sto_str : STO sLt where
 irr:=fun a=>by simp [sLt]
 tr:=fun a b c h1 h2=>by
  simp only [sLt,decide_eq_true_eq] at *
  exact List.lt_trans h1 h2
 tri:=fun a b h1 h2=>by
  simp only [sLt,decide_eq_false_iff_not] at *
  have e : a.cps.toList = b.cps.toList:=List.le_antisymm (List.not_lt.mp h2) (List.not_lt.mp h1)
  obtain ⟨a⟩:=a
  obtain ⟨b⟩:=b
  exact congrArg Str.mk (Array.toList_inj.mp e)
theorem sorted_unique {α : Type} {lt : α->α->Bool} (W : STO lt) : ∀ {xs ys : List α},xs.Perm ys->xs.Pairwise (fun a b=>lt b a = false)->ys.Pairwise (fun a b=>lt b a = false)->xs = ys
 | [],ys,p,_,_=>by rw [p.nil_eq]
 | x::xs,[],p,_,_=>absurd p.symm (by intro z; exact absurd z.nil_eq (by simp))
 | x::xs,y::ys,p,h1,h2=>by
  have e : x = y:=by
   have m1 : x ∈ y::ys:=p.mem_iff.mp List.mem_cons_self
   have m2 : y ∈ x::xs:=p.mem_iff.mpr List.mem_cons_self
   rcases List.mem_cons.mp m1 with e | m1
   ·exact e
   rcases List.mem_cons.mp m2 with e | m2
   ·exact e.symm
   exact W.tri _ _ ((List.pairwise_cons.mp h2).1 x m1) ((List.pairwise_cons.mp h1).1 y m2)
  subst e
  rw [sorted_unique W p.cons_inv (List.pairwise_cons.mp h1).2 (List.pairwise_cons.mp h2).2]
section
variable {X : Cx} {pins : List (Addr × Obj)} {σ : St} {H : Hp} {s : Shared}
end
section
variable {X : Cx} {e : Expr} {f : FE} {p1 p2 p3 p4 : Pos}
end
open PySem
theorem layNew_led (t : SetTable) (es : Array (Int × Value)) (h : Int) (x : Value) : (layNew t es h x).2.1.led = t.led:=by
 unfold layNew
 split
 ·show (SetTable.orStandIn (t.put _).1 _).led = t.led
  unfold SetTable.orStandIn
  split
  ·rfl
  ·rfl
 ·rfl
theorem relayAll_led (t : SetTable) (es : Array (Int × Value)) (n : Nat) : (relayAll t es n).2.1.led = t.led /\ (t.plain = false->(relayAll t es n).2.1.plain = false):=by
 unfold relayAll
 split
 ·rename_i t' order e
  have e' : t'.led = t.led /\ t'.plain = t.plain:=by
   unfold SetTable.relaid SetTable.laid at e
   simp only [Option.bind_eq_bind,Option.bind_eq_some_iff] at e
   obtain ⟨ow,_,e⟩:=e
   cases e
   exact ⟨rfl,rfl⟩
  dsimp only
  split
  ·exact ⟨e'.1,fun h=>e'.2.trans h⟩
  ·exact ⟨rfl,fun _=>rfl⟩
 ·exact ⟨rfl,fun _=>rfl⟩
section
variable {prog : Program} {w : World} {K : Type} [DecidableEq K] {knd : KeyKind prog w K} {A : Around} {E : Value->Shared->Prop} {s : Shared}
def SetAt (knd : KeyKind prog w K) (h : Heap) (a : Addr) (es : Array (Int × Value)) (ep : Nat) (t : SetTable) : Prop:=
 ∃ o,h.get? a = some o /\ o.ExactSet /\ o.data = .set es ep t /\ ElemsOf knd es.toList /\ t.fits es.size = true
theorem setAdd_more {a : Addr} {es : Array (Int × Value)} {ep : Nat} {t : SetTable} {k : K} {x : Value} {Q : Bool->Shared->Prop} (hkey : knd.is k x = true) (hsc : x.scannable = true) (hS : SetAt knd s.heap a es ep t) (hroom : es.size + 1 < scanBound)
  (h1 : (∃ e ∈ es.toList,knd.is k e.2 = true)->Q false s)
  (h2 : (∀ e ∈ es.toList,knd.is k e.2 = false)->∀ h' es' ep' t',Heap.SameBut a s.heap h'->SetAt knd h' a es' ep' t'->es'.toList.Perm (es.toList++[(knd.hash k,x)])->t'.led = t.led->(plainKind x = false->t'.plain = false)->Q true { s with heap:=h' }) :
  wpAny (model prog w) A (setAddHashed a x (knd.hash k)) Q E s:=by
 obtain ⟨o,ho,hex,hd,hel,hf⟩:=hS
 have hb : es.size < scanBound:=by omega
 unfold setAddHashed setAddHashedIn
 refine wpAny_holding (wpAny_bind (wpAny_setState_of ho hd hf ?_))
 dsimp only
 rw [byScan_of hsc hb hel]
 simp only [↓reduceIte]
 unfold setAddByScan
 refine wpAny_bind ?_
 refine wpAny_bind (wpAny_rule ?_)
 refine wpAny_bind (wpAny_setScan_of hkey ho hd hf hel ?_)
 cases hr : List.findIdx? (fun e=>knd.is k e.2) es.toList with
 | some j=>
  dsimp only
  obtain ⟨hj,hpj,_⟩:=List.findIdx?_eq_some_iff_getElem.mp hr
  exact wpAny_pure (wpAny_pure (h1 ⟨es.toList[j],List.getElem_mem hj,hpj⟩))
 | none=>
  dsimp only
  have hno : ∀ e ∈ es.toList,knd.is k e.2 = false:=fun e he=>List.findIdx?_eq_none_iff.mp hr e he
  have hgw : ∀ (b : Bool) {s₁ : Shared} {Q' : Unit->Shared->Prop},Q' () s₁->wpAny (model prog w) A (match b with | true=>rule "set.scan.the-table-gave-way" | false=>pure ()) Q' E s₁:=
   fun b s₁ Q' hq=>by cases b <;> first | exact wpAny_pure hq | exact wpAny_rule hq
  have hperm:=layNew_perm t es (knd.hash k) x
  have hfits:=layNew_fits t es (knd.hash k) x
  have hled:=layNew_led t es (knd.hash k) x
  generalize hL : layNew t es (knd.hash k) x = L at hperm hfits hled ⊢
  obtain ⟨es1,t1,wasDummy,gave⟩:=L
  dsimp only at hperm hfits hled ⊢
  rw [Array.toList_push] at hperm
  have hel1 : ElemsOf knd es1.toList:=(hel.push hkey hsc).perm hperm
  have hsz1 : es1.size = es.size + 1:=by rw [<- Array.length_toList,hperm.length_eq,List.length_append,Array.length_toList]; rfl
  have hb1 : es1.size < scanBound:=by omega
  refine wpAny_bind (hgw _ ?_)
  -- the tail
  have tail : ∀ (t2 : SetTable),t2.fits es1.size = true->t2.led = t1.led->(plainKind x = false->t2.plain = false)->wpAny (model prog w) A (do
    storeSet a es1 t2
    if (!wasDummy && t2.tooFull) = true then do
      (match (relayAll t2 es1 (SetTable.grown es1.size)).2.2 with | true=>rule "set.scan.the-table-gave-way" | false=>pure ())
      storeSet a (relayAll t2 es1 (SetTable.grown es1.size)).1 (relayAll t2 es1 (SetTable.grown es1.size)).2.1
      pure (some true)
     else pure (some true)) (fun r s'=>match r with | some b=>Q b s' | none=>False) E s:=by
   intro t2 f2 l2 p2
   have hg : (s.heap.update a (Obj.putSet es1 t2)).get? a = some { o with data:=.set es1 (ep + 1) t2 }:=by
    have:=Heap.get?_update_self (Obj.putSet es1 t2) ho (by rw [putSet_of es1 t2 hd]; rfl)
    rw [putSet_of es1 t2 hd] at this; exact this
   have sb1:=Heap.SameBut.update s.heap a (Obj.putSet es1 t2)
   refine wpAny_bind (wpAny_storeSet_of ho hd ?_ (fits_of_scanBound hb1))
   split
   ·have hp:=relayAll_perm t2 es1 (SetTable.grown es1.size)
    have hfr:=relayAll_fits t2 es1 (SetTable.grown es1.size)
    have hlr:=relayAll_led t2 es1 (SetTable.grown es1.size)
    generalize hRl : relayAll t2 es1 (SetTable.grown es1.size) = Rl at hp hfr hlr ⊢
    obtain ⟨es2,t3,gave2⟩:=Rl
    dsimp only at hp hfr hlr ⊢
    have hsz : es2.size = es1.size:=by rw [<- Array.length_toList,hp.length_eq,Array.length_toList]
    refine wpAny_bind (hgw _ ?_)
    refine wpAny_bind (wpAny_storeSet_of hg rfl ?_ (fits_of_scanBound (by omega)))
    have hg2 : ((s.heap.update a (Obj.putSet es1 t2)).update a (Obj.putSet es2 t3)).get? a = some { o with data:=.set es2 (ep + 1 + 1) t3 }:=by
     have:=Heap.get?_update_self (Obj.putSet es2 t3) hg (by rw [putSet_of es2 t3 rfl]; rfl)
     rw [putSet_of es2 t3 rfl] at this; exact this
    exact wpAny_pure (h2 hno _ es2 (ep + 1 + 1) t3 (sb1.trans (Heap.SameBut.update _ a _)) ⟨_,hg2,hex,rfl,hel1.perm hp,hfr⟩ (hp.trans hperm) (hlr.1.trans (l2.trans hled)) fun z=>hlr.2 (p2 z))
   ·exact wpAny_pure (h2 hno _ es1 (ep + 1) t2 sb1 ⟨_,hg,hex,rfl,hel1,f2⟩ hperm (l2.trans hled) p2)
  split
  ·refine wpAny_bind ?_
   rw [hashByValue_scannable 8 hsc]
   refine wpAny_pure ?_
   refine wpAny_mono (tail _ ?_ ?_ ?_) (fun r s' hq=>?_) fun _ _ z=>z
   ·split
    ·exact hfits
    ·exact SetTable.fits_plain_off hfits
   ·split <;> rfl
   ·intro z
    rw [z]
    rfl
   ·cases r with
    | some b=>exact wpAny_pure hq
    | none=>exact hq.elim
  ·rename_i hpl
   refine wpAny_bind (wpAny_pure ?_)
   simp only [↓reduceIte]
   refine wpAny_mono (tail _ hfits rfl fun _=>by simpa using hpl) (fun r s' hq=>?_) fun _ _ z=>z
   cases r with
   | some b=>exact wpAny_pure hq
   | none=>exact hq.elim
end
theorem entry_set_iter : entryFor table "set.__iter__" = some Builtin.«frozenset.__iter__»:=
 entryFor_alias (id':="frozenset.__iter__") (by kernel_rfl) rfl (by decide +kernel) (by kernel_rfl)
theorem slot_seti_next : Slot "set_iterator" "__next__" "set_iterator.__next__":=
 .of (owner:="set_iterator") (n:="__next__") (by rw [typeLookup_type,builtinLookup_eq_fast]; kernel_rfl) (by decide +kernel) (by decide +kernel) (by decide +kernel)
  (by first | exact .inl (by decide +kernel) | exact .inr (by decide +kernel)) (by rw [isSubtype_type]; kernel_rfl)
theorem entry_seti_next : entryFor table "set_iterator.__next__" = some Builtin.«set_iterator.__next__»:=entryFor_of_tree (by kernel_rfl)
theorem args_seti_next (a : Value) : argsOk "set_iterator.__next__" ⟨[a],[]⟩:=by
 unfold argsOk; kernel_rfl
section
variable {prog : Program} {w : World} {K : Type} [DecidableEq K] {knd : KeyKind prog w K} {A : Around} {E : Value->Shared->Prop} {s : Shared}
def IsSetIter (h : Heap) (it : Addr) (first : Value) (i : Nat) (a : Addr) (n ep : Nat) : Prop:=
 ∃ o,h.get? it = some o /\ o.cls = .type "set_iterator" /\ o.data = .fields #[first,.int i 0,.ref a,.int n 0,.int ep 0]
theorem IsSetIter.typeIs {it : Addr} {first : Value} {i : Nat} {a : Addr} {n ep : Nat} (x : IsSetIter s.heap it first i a n ep) : s.TypeIs (.ref it) "set_iterator":=let ⟨o,ho,hc,_⟩:=x; ⟨o,ho,hc⟩
theorem IsSetIter.at {h h' : Heap} {it : Addr} {first : Value} {i : Nat} {a : Addr} {n ep : Nat} (x : IsSetIter h it first i a n ep) (k : ∀ o,h.get? it = some o->h'.get? it = some o) : IsSetIter h' it first i a n ep:=let ⟨o,ho,r⟩:=x; ⟨o,k o ho,r⟩
theorem SetAt.at {h h' : Heap} {a : Addr} {es : Array (Int × Value)} {ep : Nat} {t : SetTable} (x : SetAt knd h a es ep t) (k : ∀ o,h.get? a = some o->h'.get? a = some o) : SetAt knd h' a es ep t:=let ⟨o,ho,r⟩:=x; ⟨o,k o ho,r⟩
theorem seti_field0 {it : Addr} {first : Value} {i : Nat} {a : Addr} {n ep : Nat} {h : Heap} {f' : Value} (x : IsSetIter h it first i a n ep) : IsSetIter (h.update it (Obj.mapFields (·.setIfInBounds 0 f'))) it f' i a n ep:=by
 obtain ⟨o,ho,hc,hd⟩:=x
 exact ⟨_,Heap.get?_update_self _ ho (Obj.isFreed_of_fields (Obj.data_mapFields hd _)),(Obj.cls_mapFields ..).trans hc,by rw [Obj.data_mapFields hd]; simp [rawInt]⟩
theorem seti_field1 {it : Addr} {first : Value} {i : Nat} {a : Addr} {n ep : Nat} {h : Heap} (x : IsSetIter h it first i a n ep) : IsSetIter (h.update it (Obj.mapFields (·.setIfInBounds 1 (rawInt ((i : Int) + 1))))) it first (i + 1) a n ep:=by
 obtain ⟨o,ho,hc,hd⟩:=x
 exact ⟨_,Heap.get?_update_self _ ho (Obj.isFreed_of_fields (Obj.data_mapFields hd _)),(Obj.cls_mapFields ..).trans hc,by rw [Obj.data_mapFields hd]; simp [rawInt]⟩
theorem stop_end {it : Addr} {o : Obj} {Q : Option Value->Shared->Prop} (hh : A.handled = none) (ho : s.heap.get? it = some o) {fs : Array Value} (hd : o.data = .fields fs) (h2 : 2 < fs.size) {h0 : Heap} (hx : Heap.ExtBut it h0 s.heap) (hQ : ∀ h',Heap.ExtBut it h0 h'->Q none { s with heap:=h' }) :
  wpAny (model prog w) A.in1 (do setField (.ref it) 2 .none; raiseNew (<- newExc (.type "StopIteration") []) : Sem PySem.Fin) (fun fin s'=>∃ v,fin = .done (.ret v) /\ wpAny (model prog w) A (pure (some v)) Q E s') (fun e s'=>wpAny (model prog w) A (do if <- isInstance e (.type "StopIteration") then pure none else throw e) Q E s') s:=by
 refine wpAny_bind (wpAny_setField ho hd h2 ?_)
 refine wpAny_bind ?_
 simp only [newExc,newTuple]
 refine wpAny_bind (wpAny_newObj_type ?_ (by size_fits))
 refine wpAny_bind (m:=firstArgMember _ _) (wpAny_of_eq (a:=Value.none) (by first | rfl | (simp only [firstArgMember]; rfl)) ?_)
 refine wpAny_newObj_type ?_ (by size_fits)
 simp only [raiseNew]
 refine wpAny_bind (wpAny_handled ?_)
 rw [show A.in1.handled = none from hh]
 refine wpAny_bind (wpAny_pure (wpAny_throw ?_))
 refine wpAny_bind (wpAny_isInstance (T:="StopIteration") (b:=true) ⟨_,Heap.get?_push_size _ rfl,rfl⟩ isSubtype_stop ?_)
 refine wpAny_pure (hQ _ (Heap.ExtBut.push (Heap.ExtBut.push (fun b o hb e=>?_) _) _))
 exact (Heap.SameBut.update ..).extBut b o hb (hx b o hb e)
theorem setiI_item {it a : Addr} {slot next i n ep : Nat} {es : Array (Int × Value)} {t : SetTable} {x : Value} {Q : Option Value->Shared->Prop} (hit : IsSetIter s.heap it (.int slot 0) i a n ep) (hS : SetAt knd s.heap a es ep t) (hn : es.size = n)
  (hsn : ∀ (Q' : Option (Value × Nat)->Shared->Prop) (E' : Value->Shared->Prop),Q' (some (x,next)) s->wpAny (model prog w) A.in1 (setNext a slot i ep) Q' E' s)
  (hQ : ∀ h',IsSetIter h' it (.int next 0) (i + 1) a n ep->Heap.SameBut it s.heap h'->Q (some x) { s with heap:=h' }) : wpAny (model prog w) A (pyNext (.ref it)) Q E s:=by
 obtain ⟨o,ho,hc,hd⟩:=id hit
 obtain ⟨oa,hoa,hex,hda,hel,hf⟩:=id hS
 unfold pyNext
 refine wpAny_bind (wpAny_attempt (wpAny_callSpecial?_slot (name:=Str.ofString "__next__") hit.typeIs slot_seti_next
  (wpAny_call_entry slot_seti_next hit.typeIs entry_seti_next ?_ (args_seti_next _))))
 unfold Builtin.«set_iterator.__next__»
 refine wpAny_bind (wpAny_pure ?_)
 refine wpAny_bind (wpAny_fieldsOf ho hd ?_)
 dsimp only
 refine wpAny_bind (wpAny_setEntries_of hoa hda hf ?_)
 rw [if_neg (by simp [hn])]
 simp only [Int.toNat_natCast]
 refine wpAny_bind (hsn _ _ ?_)
 dsimp only
 have hit0:=seti_field0 (f':=rawInt next) hit
 refine wpAny_bind (wpAny_setField ho hd (by simp) ?_)
 obtain ⟨o1,ho1,hc1,hd1⟩:=id hit0
 refine wpAny_bind (wpAny_setField ho1 hd1 (by simp) ?_)
 exact wpAny_pure ⟨_,rfl,wpAny_pure (hQ _ (seti_field1 hit0) ((Heap.SameBut.update ..).trans (Heap.SameBut.update ..)))⟩
theorem setiI_end {it a : Addr} {slot i n ep : Nat} {es : Array (Int × Value)} {t : SetTable} {Q : Option Value->Shared->Prop} (hh : A.handled = none) (hit : IsSetIter s.heap it (.int slot 0) i a n ep) (hS : SetAt knd s.heap a es ep t) (hn : es.size = n)
  (hsn : ∀ (Q' : Option (Value × Nat)->Shared->Prop) (E' : Value->Shared->Prop),Q' none s->wpAny (model prog w) A.in1 (setNext a slot i ep) Q' E' s)
  (hQ : ∀ h',Heap.ExtBut it s.heap h'->Q none { s with heap:=h' }) : wpAny (model prog w) A (pyNext (.ref it)) Q E s:=by
 obtain ⟨o,ho,hc,hd⟩:=id hit
 obtain ⟨oa,hoa,hex,hda,hel,hf⟩:=id hS
 unfold pyNext
 refine wpAny_bind (wpAny_attempt (wpAny_callSpecial?_slot (name:=Str.ofString "__next__") hit.typeIs slot_seti_next
  (wpAny_call_entry slot_seti_next hit.typeIs entry_seti_next ?_ (args_seti_next _))))
 unfold Builtin.«set_iterator.__next__»
 refine wpAny_bind (wpAny_pure ?_)
 refine wpAny_bind (wpAny_fieldsOf ho hd ?_)
 dsimp only
 refine wpAny_bind (wpAny_setEntries_of hoa hda hf ?_)
 rw [if_neg (by simp [hn])]
 simp only [Int.toNat_natCast]
 refine wpAny_bind (hsn _ _ ?_)
 dsimp only
 exact stop_end hh ho hd (by simp) (fun b o _ e=>e) hQ
theorem setiD_item {it a p : Addr} {i n ep k : Nat} {es : Array (Int × Value)} {t : SetTable} {pl : Array Value} {hx : Int} {x : Value} {Q : Option Value->Shared->Prop} (hit : IsSetIter s.heap it (.ref p) i a n ep) (hS : SetAt knd s.heap a es ep t) (hn : es.size = n)
  (hp : s.heap.IsTuple p pl) (hk : pl[i]? = some (.int k 0)) (he : es[k]? = some (hx,x))
  (hQ : ∀ h',IsSetIter h' it (.ref p) (i + 1) a n ep->Heap.SameBut it s.heap h'->Q (some x) { s with heap:=h' }) : wpAny (model prog w) A (pyNext (.ref it)) Q E s:=by
 obtain ⟨o,ho,hc,hd⟩:=id hit
 obtain ⟨oa,hoa,hex,hda,hel,hf⟩:=id hS
 obtain ⟨op,hop,hcp,np,hdp⟩:=id hp
 unfold pyNext
 refine wpAny_bind (wpAny_attempt (wpAny_callSpecial?_slot (name:=Str.ofString "__next__") hit.typeIs slot_seti_next
  (wpAny_call_entry slot_seti_next hit.typeIs entry_seti_next ?_ (args_seti_next _))))
 unfold Builtin.«set_iterator.__next__»
 refine wpAny_bind (wpAny_pure ?_)
 refine wpAny_bind (wpAny_fieldsOf ho hd ?_)
 dsimp only
 refine wpAny_bind (wpAny_setEntries_of hoa hda hf ?_)
 rw [if_neg (by simp [hn])]
 simp only [Int.toNat_natCast]
 refine wpAny_bind (wpAny_seqItems hop hdp ?_)
 dsimp only
 rw [hk]
 dsimp only
 refine wpAny_bind ?_
 unfold setNextDrawn
 refine wpAny_bind (wpAny_setState_of hoa hda hf ?_)
 dsimp only
 rw [if_neg (by simp)]
 simp only [Int.toNat_natCast,he]
 refine wpAny_pure ?_
 refine wpAny_bind (wpAny_setField ho hd (by simp) ?_)
 exact wpAny_pure ⟨_,rfl,wpAny_pure (hQ _ (seti_field1 hit) (Heap.SameBut.update ..))⟩
theorem setiD_end {it a p : Addr} {i n ep : Nat} {es : Array (Int × Value)} {t : SetTable} {pl : Array Value} {Q : Option Value->Shared->Prop} (hh : A.handled = none) (hit : IsSetIter s.heap it (.ref p) i a n ep) (hS : SetAt knd s.heap a es ep t) (hn : es.size = n)
  (hp : s.heap.IsTuple p pl) (hk : pl[i]? = none)
  (hQ : ∀ h',Heap.ExtBut it s.heap h'->Q none { s with heap:=h' }) : wpAny (model prog w) A (pyNext (.ref it)) Q E s:=by
 obtain ⟨o,ho,hc,hd⟩:=id hit
 obtain ⟨oa,hoa,hex,hda,hel,hf⟩:=id hS
 obtain ⟨op,hop,hcp,np,hdp⟩:=id hp
 unfold pyNext
 refine wpAny_bind (wpAny_attempt (wpAny_callSpecial?_slot (name:=Str.ofString "__next__") hit.typeIs slot_seti_next
  (wpAny_call_entry slot_seti_next hit.typeIs entry_seti_next ?_ (args_seti_next _))))
 unfold Builtin.«set_iterator.__next__»
 refine wpAny_bind (wpAny_pure ?_)
 refine wpAny_bind (wpAny_fieldsOf ho hd ?_)
 dsimp only
 refine wpAny_bind (wpAny_setEntries_of hoa hda hf ?_)
 rw [if_neg (by simp [hn])]
 simp only [Int.toNat_natCast]
 refine wpAny_bind (wpAny_seqItems hop hdp ?_)
 dsimp only
 rw [hk]
 dsimp only
 have hit0:=seti_field0 (f':=rawInt 0) hit
 refine wpAny_bind (wpAny_setField ho hd (by simp) ?_)
 obtain ⟨o1,ho1,hc1,hd1⟩:=id hit0
 exact stop_end (s:={ s with heap:=_ }) hh ho1 hd1 (by simp) (Heap.SameBut.update ..).extBut hQ
end
theorem erase_perm {α : Type} : ∀ {l : List α} {i : Nat} (h : i < l.length),(l[i]::l.eraseIdx i).Perm l
 | x::xs,0,h=>List.Perm.refl _
 | x::xs,i + 1,h=>by
  show (xs[i]'(by simpa using h)::x::xs.eraseIdx i).Perm (x::xs)
  exact (List.Perm.swap _ _ _).trans (List.Perm.cons _ (erase_perm (by simpa using h)))
theorem pick_go {α : Type} (next : Nat->Nat) : ∀ (fuel k : Nat) (left : List α) (out : Array α),left.length <= fuel->(pickOrder.go next fuel k left out).toList.Perm (out.toList++left)
 | 0,k,left,out,h=>by
  have : left = []:=List.eq_nil_of_length_eq_zero (by omega)
  subst this
  simp [pickOrder.go]
 | fuel + 1,k,left,out,h=>by
  unfold pickOrder.go
  cases left with
  | nil=>simp
  | cons x xs=>
   have hlt : next k % (x::xs).length < (x::xs).length:=Nat.mod_lt _ (by simp)
   generalize hi : next k % (x::xs).length = i at *
   rw [List.getElem?_eq_getElem hlt]
   dsimp only
   refine (pick_go next fuel (k + 1) _ _ (by rw [List.length_eraseIdx]; split <;> simp at * <;> omega)).trans ?_
   rw [Array.toList_push,List.append_assoc]
   refine List.Perm.append_left _ ?_
   exact (erase_perm hlt)
theorem pick_perm {α : Type} (next : Nat->Nat) (xs : Array α) : (pickOrder next xs).toList.Perm xs.toList:=by
 have:=pick_go next xs.size 0 xs.toList #[] (by simp)
 unfold pickOrder
 simpa using this
theorem wpAny_choose {M : Model} {A : Around} {E : Value->Shared->Prop} {s : Shared} {src : Source} {n : Nat} {Q : Nat->Shared->Prop} (hn : n ≠ 0) (h : ∀ i,i < n->Q i { s with drawn:=s.drawn.bump src }) : wpAny M A (choose src n) Q E s:=fun Γ p hΓ=>by
 show Sem.wp M Γ (.choose src n .pure) _ _ p s
 rw [Sem.wp_choose]
 refine ⟨hn,?_⟩
 have:=h (M.w.draws src (s.drawn.get src) % n) (Nat.mod_lt _ (by omega))
 exact (wpAny_pure (M:=M) (A:=A) (E:=E) this) Γ p hΓ
theorem drawOrder_ok {α : Type} {M : Model} {A : Around} {E : Value->Shared->Prop} : ∀ (n : Nat) (xs : List α) {s : Shared} {Q : List α->Shared->Prop},n = xs.length->(∀ ys d,ys.Perm xs->Q ys { s with drawn:=d })->wpAny M A (drawOrder n xs) Q E s
 | 0,xs,s,Q,hn,h=>by
  have : xs = []:=List.eq_nil_of_length_eq_zero hn.symm
  subst this
  unfold drawOrder
  exact wpAny_pure (h [] s.drawn (List.Perm.refl _))
 | n + 1,[],s,Q,hn,h=>by cases hn
 | n + 1,x::xs,s,Q,hn,h=>by
  unfold drawOrder
  refine wpAny_bind (wpAny_choose (by simp) fun i hi=>?_)
  rw [List.getElem?_eq_getElem hi]
  dsimp only
  refine wpAny_bind (drawOrder_ok n _ (by rw [List.length_eraseIdx,if_pos hi]; simp at *; omega) fun ys d hp=>wpAny_pure (h _ d ?_))
  exact (List.Perm.cons _ hp).trans (erase_perm hi)
section
variable {prog : Program} {w : World} {K : Type} [DecidableEq K] {knd : KeyKind prog w K} {A : Around} {E : Value->Shared->Prop} {s : Shared}
theorem byText_is {Q : Bool->Shared->Prop} (h : Q (w.params.followText "set-order") s) : wpAny (model prog w) A setsByText Q E s:=by
 unfold setsByText
 exact wpAny_bind (wpAny_askSetting (wpAny_pure h))
theorem setNext_text {a : Addr} {slot i ep : Nat} {es : Array (Int × Value)} {t : SetTable} {Q : Option (Value × Nat)->Shared->Prop} (hS : SetAt knd s.heap a es ep t) (hb : w.params.followText "set-order" = true)
  (h : Q (((pickOrder (w.params.setOrder a ep) es)[i]?).map fun e=>(e.2,slot)) s) : wpAny (model prog w) A (setNext a slot i ep) Q E s:=by
 obtain ⟨oa,hoa,hex,hda,hel,hf⟩:=hS
 unfold setNext
 refine wpAny_bind (wpAny_setState_of hoa hda hf ?_)
 dsimp only
 refine wpAny_bind (byText_is ?_)
 rw [hb,if_pos rfl,if_neg (by simp)]
 refine wpAny_bind ?_
 unfold setWalk
 refine wpAny_bind (wpAny_setState_of hoa hda hf ?_)
 dsimp only
 refine wpAny_bind (byText_is ?_)
 rw [hb,if_pos rfl]
 exact wpAny_bind (wpAny_askSetting (wpAny_pure (wpAny_pure h)))
theorem setNext_slot {a : Addr} {slot i ep : Nat} {es : Array (Int × Value)} {t : SetTable} {Q : Option (Value × Nat)->Shared->Prop} (hS : SetAt knd s.heap a es ep t) (hb : w.params.followText "set-order" = false) (hl : t.led = true) (h1 : es.size <= 1)
  (h : Q (match es[SetTable.below t.place slot]?,t.place[SetTable.below t.place slot]? with | some (_,x),some j=>some (x,j + 1) | _,_=>none) s) : wpAny (model prog w) A (setNext a slot i ep) Q E s:=by
 obtain ⟨oa,hoa,hex,hda,hel,hf⟩:=hS
 unfold setNext
 refine wpAny_bind (wpAny_setState_of hoa hda hf ?_)
 dsimp only
 refine wpAny_bind (byText_is ?_)
 rw [hb,if_neg Bool.false_ne_true]
 refine wpAny_ite_split (fun c=>?_) fun _=>?_
 ·have c : (!t.plain && decide (es.size > 1)) = true:=c
  rw [decide_eq_false (by omega),Bool.and_false] at c
  cases c
 ·refine wpAny_bind ?_
  refine wpAny_ite_split (fun c=>?_) fun _=>?_
  ·have c : (!t.led && !es.isEmpty) = true:=c
   rw [hl] at c
   cases c
  ·exact wpAny_pure (wpAny_pure h)
end
section
variable {prog : Program} {w : World} {K : Type} [DecidableEq K] {knd : KeyKind prog w K} {A : Around} {E : Value->Shared->Prop} {s : Shared}
def Walkable (w : World) (es : Array (Int × Value)) (t : SetTable) : Prop:=w.params.followText "set-order" = true \/ (t.led = true /\ (t.plain = false \/ es.size = 0))
structure SetWalk (prog : Program) (w : World) (A : Around) (it : Addr) (fp : List Addr) (vs : List Value) (St : Nat->Heap->Prop) : Prop where
 sub : it ∈ fp
 frame : ∀ i h h',St i h->(∀ b ∈ fp,∀ o,h.get? b = some o->h'.get? b = some o)->St i h'
 item : ∀ i (s : Shared) (Q : Option Value->Shared->Prop) (E : Value->Shared->Prop),i < vs.length->St i s.heap->
  (∀ v h',vs[i]? = some v->St (i + 1) h'->Heap.SameBut it s.heap h'->Q (some v) { s with heap:=h' })->wpAny (model prog w) A (pyNext (.ref it)) Q E s
 done : ∀ (s : Shared) (Q : Option Value->Shared->Prop) (E : Value->Shared->Prop),St vs.length s.heap->(∀ h',Heap.ExtBut it s.heap h'->Q none { s with heap:=h' })->wpAny (model prog w) A (pyNext (.ref it)) Q E s
theorem below_one {j k : Nat} : SetTable.below #[j] k = if j < k then 1 else 0:=by
 unfold SetTable.below
 show SetTable.below.go #[j] k 1 0 1 = _
 unfold SetTable.below.go
 simp only [Nat.zero_lt_one,if_true]
 show (if (#[j] : Array Nat).getD 0 k < k then SetTable.below.go #[j] k 0 1 1 else SetTable.below.go #[j] k 0 0 0) = _
 show (if j < k then _ else _) = _
 split <;> rfl
theorem place_size {t : SetTable} {n : Nat} (h : t.fits n = true) : t.place.size = n:=by
 unfold SetTable.fits at h
 rw [Bool.and_eq_true] at h
 simpa using h.1
theorem walk_text (hb : w.params.followText "set-order" = true) (hh : A.handled = none) {it a : Addr} (hne : a ≠ it) {es : Array (Int × Value)} {ep : Nat} {t : SetTable} :
  SetWalk prog w A it [it,a] ((pickOrder (w.params.setOrder a ep) es).toList.map (·.2)) (fun i h=>IsSetIter h it (.int (0 : Nat) 0) i a es.size ep /\ SetAt knd h a es ep t) where
 sub:=by simp
 frame:=fun i h h' st k=>⟨st.1.at fun o e=>k it (by simp) o e,st.2.at fun o e=>k a (by simp) o e⟩
 item:=fun i s Q E hi st hQ=>by
  rw [List.length_map] at hi
  refine setiI_item (next:=0) (x:=(pickOrder (w.params.setOrder a ep) es).toList[i].2) st.1 st.2 rfl (fun Q' E' q=>setNext_text st.2 hb ?_) fun h' i' sb=>hQ _ h' (by rw [List.getElem?_map,List.getElem?_eq_getElem hi]; rfl) ⟨i',st.2.at fun o e=>(sb.2 a hne).trans e⟩ sb
  rw [<- Array.getElem?_toList,List.getElem?_eq_getElem hi]
  exact q
 done:=fun s Q E st hQ=>by
  refine setiI_end hh st.1 st.2 rfl (fun Q' E' q=>setNext_text st.2 hb ?_) hQ
  rw [<- Array.getElem?_toList,List.getElem?_eq_none (by simp)]
  exact q
theorem walk_slot (hb : w.params.followText "set-order" = false) (hh : A.handled = none) {it a : Addr} (hne : a ≠ it) {es : Array (Int × Value)} {ep : Nat} {t : SetTable} (hl : t.led = true) (h1 : es.size <= 1) :
  SetWalk prog w A it [it,a] (es.toList.map (·.2)) (fun i h=>∃ slot : Nat,IsSetIter h it (.int slot 0) i a es.size ep /\ SetAt knd h a es ep t /\ ((i = 0 /\ slot = 0) \/ (i = 1 /\ ∃ j,t.place = #[j] /\ slot = j + 1))) where
 sub:=by simp
 frame:=fun i h h' st k=>let ⟨sl,st1,st2,r⟩:=st; ⟨sl,st1.at fun o e=>k it (by simp) o e,st2.at fun o e=>k a (by simp) o e,r⟩
 item:=fun i s Q E hi st hQ=>by
  obtain ⟨sl,st1,st2,r⟩:=st
  rw [List.length_map,Array.length_toList] at hi
  have hi0 : i = 0:=by omega
  have hz : es.size = 1:=by omega
  subst hi0
  have hs0 : sl = 0:=by
   rcases r with r | r
   ·exact r.2
   ·exact absurd r.1 (by decide)
  subst hs0
  obtain ⟨_,_,_,_,_,hf⟩:=id st2
  have hps:=place_size hf
  obtain ⟨j,hj⟩ : ∃ j,t.place = #[j]:=Array.size_eq_one_iff.mp (hps.trans hz)
  have hes : ∃ e,es = #[e]:=Array.size_eq_one_iff.mp hz
  obtain ⟨e,rfl⟩:=hes
  refine setiI_item (next:=j + 1) (x:=e.2) st1 st2 rfl (fun Q' E' q=>setNext_slot st2 hb hl (by omega) ?_) fun h' i' sb=>hQ _ h' rfl ⟨j + 1,i',st2.at fun o e=>(sb.2 a hne).trans e,.inr ⟨rfl,j,hj,rfl⟩⟩ sb
  rw [hj,below_one,if_neg (Nat.not_lt_zero j)]
  exact q
 done:=fun s Q E st hQ=>by
  obtain ⟨sl,st1,st2,r⟩:=st
  obtain ⟨_,_,_,_,_,hf⟩:=id st2
  have hps:=place_size hf
  refine setiI_end hh st1 st2 rfl (fun Q' E' q=>setNext_slot st2 hb hl (by omega) ?_) hQ
  rcases r with r | ⟨r,j,hj,rfl⟩
  ·have hz : es.size = 0:=by have:=r.1; simpa using this
   have : es = #[]:=Array.eq_empty_of_size_eq_zero hz
   subst this
   exact q
  ·have hz : es.size = 1:=by have:=r; simpa using this
   obtain ⟨e,rfl⟩:=Array.size_eq_one_iff.mp hz
   rw [hj,below_one,if_pos (Nat.lt_succ_self j)]
   exact q
theorem walk_drawn (hh : A.handled = none) {it a p : Addr} (hne : a ≠ it) (hnp : p ≠ it) {es : Array (Int × Value)} {ep : Nat} {t : SetTable} {ix : List Nat} (hix : ix.Perm (List.range es.size)) :
  SetWalk prog w A it [it,a,p] (ix.map fun k=>(es.getD k (0,.none)).2) (fun i h=>IsSetIter h it (.ref p) i a es.size ep /\ SetAt knd h a es ep t /\ h.IsTuple p (ix.map fun k=>Value.int (k : Nat) 0).toArray) where
 sub:=by simp
 frame:=fun i h h' st k=>⟨st.1.at fun o e=>k it (by simp) o e,st.2.1.at fun o e=>k a (by simp) o e,let ⟨o,e,r⟩:=st.2.2; ⟨o,k p (by simp) o e,r⟩⟩
 item:=fun i s Q E hi st hQ=>by
  rw [List.length_map] at hi
  have hk : ix[i] < es.size:=by simpa using hix.mem_iff.mp (List.getElem_mem hi)
  refine setiD_item (k:=ix[i]) (hx:=es[ix[i]].1) (x:=es[ix[i]].2) st.1 st.2.1 rfl st.2.2 (by simp [hi]) (by rw [Array.getElem?_eq_getElem hk]) fun h' i' sb=>hQ _ h' (by simp [hi,Array.getD,hk]) ⟨i',st.2.1.at fun o e=>(sb.2 a hne).trans e,let ⟨o,e,r⟩:=st.2.2; ⟨o,(sb.2 p hnp).trans e,r⟩⟩ sb
 done:=fun s Q E st hQ=>setiD_end hh st.1 st.2.1 rfl st.2.2 (by simp) hQ
theorem pyIter_set {a : Addr} {es : Array (Int × Value)} {ep : Nat} {t : SetTable} {Q : Value->Shared->Prop} (hS : SetAt knd s.heap a es ep t) (hw : Walkable w es t) (hb0 : es.size < 4096)
  (q : ∀ (vs : List Value) (h' : Heap) (d : Drawn) (it : Addr) (fp : List Addr) (St : Nat->Heap->Prop),vs.Perm (es.toList.map (·.2))->(∀ A : Around,A.handled = none->SetWalk prog w A it fp vs St)->St 0 h'->s.heap.objs.size <= it->it < h'.objs.size->(∀ b ∈ fp,b = a \/ s.heap.objs.size <= b)->(∀ b o,s.heap.get? b = some o->h'.get? b = some o)->Q (.ref it) { s with heap:=h',drawn:=d }) :
  wpAny (model prog w) A (pyIter (.ref a)) Q E s:=by
 obtain ⟨oa,hoa,hex,hda,hel,hf⟩:=id hS
 have hT : s.TypeIs (.ref a) "set":=⟨oa,hoa,hex.1⟩
 have haS : a < s.heap.objs.size:=Heap.lt_size hoa
 refine wpAny_pyIter_slot hT F.slot_set_iter (wpAny_call_entry F.slot_set_iter hT entry_set_iter ?_ (F.args_set_iter_1 _))
 unfold Builtin.«frozenset.__iter__»
 refine wpAny_bind (m:=Builtin.Frozenset.slot0 _ _) (wpAny_pure ?_)
 refine wpAny_bind (m:=Builtin.Frozenset.sizeOf a) (wpAny_bind (wpAny_setEntries_of hoa hda hf (wpAny_pure ?_)))
 have epoch : ∀ (s1 : Shared) (Q1 : Nat->Shared->Prop),SetAt knd s1.heap a es ep t->Q1 ep s1->wpAny (model prog w) A.in1 (setEpoch a) Q1 E s1:=fun s1 Q1 S1 q1=>by
  obtain ⟨oa,hoa,hex,hda,hel,hf⟩:=S1
  unfold setEpoch
  exact wpAny_bind (wpAny_setState_of hoa hda hf (wpAny_pure q1))
 have fin : ∀ (h1 : Heap) (d : Drawn) (first : Value) (vs : List Value) (fp : List Addr) (St : Nat->Heap->Prop),(∀ b o,s.heap.get? b = some o->h1.get? b = some o)->s.heap.objs.size <= h1.objs.size->vs.Perm (es.toList.map (·.2))->
   (∀ A : Around,A.handled = none->SetWalk prog w A h1.objs.size fp vs St)->(∀ b ∈ fp,b = a \/ s.heap.objs.size <= b)->
   (∀ h2,IsSetIter h2 h1.objs.size first 0 a es.size ep->(∀ b o,h1.get? b = some o->h2.get? b = some o)->St 0 h2)->
   wpAny (model prog w) A.in1 (do
    let e <- setEpoch a
    let r <- newFields "set_iterator" [first,rawInt 0,Value.ref a,rawInt (es.size : Nat),rawInt (e : Nat)]
    ret r : Sem PySem.Fin) (fun fin s'=>∃ v,fin = Fin.done (Flow.ret v) /\ ∃ T' r,s'.TypeIs v T' /\ typeLookup (Value.type T') (Str.ofString "__next__") = pure (some r) /\ Q v s') E { s with heap:=h1,drawn:=d }:=by
  intro h1 d first vs fp St keep hle hp W hfp hst
  refine wpAny_bind (epoch { s with heap:=h1,drawn:=d } _ (hS.at fun o e=>keep _ _ e) ?_)
  refine wpAny_bind (wpAny_newObj_type (wpAny_pure ⟨_,rfl,"set_iterator",_,⟨_,Heap.get?_push_size _ rfl,rfl⟩,slot_seti_next.lookup,?_⟩))
  refine q vs _ d h1.objs.size fp St hp W (hst _ ⟨_,Heap.get?_push_size _ rfl,rfl,by simp [rawInt]⟩ fun b o e=>Heap.get?_push_of_some _ e) hle (by rw [Heap.size_push]; exact Nat.lt_succ_self _) hfp fun b o e=>Heap.get?_push_of_some _ (keep b o e)
 refine wpAny_bind ?_
 unfold setDrawn
 refine wpAny_bind (wpAny_setState_of hoa hda hf ?_)
 dsimp only
 refine wpAny_bind (byText_is (wpAny_pure ?_))
 cases hb : w.params.followText "set-order" with
 | true=>
  show wpAny _ _ (if (false && _) = true then _ else _) _ _ _
  rw [Bool.false_and,if_neg Bool.false_ne_true]
  refine wpAny_bind (wpAny_pure ?_)
  refine fin s.heap s.drawn (rawInt 0) ((pickOrder (w.params.setOrder a ep) es).toList.map (·.2)) [s.heap.objs.size,a] _ (fun _ _ e=>e) (Nat.le_refl _) ((pick_perm _ es).map _) (fun A hh=>walk_text (knd:=knd) (t:=t) hb hh (Nat.ne_of_lt haS)) (fun b hb'=>?_) fun h2 i2 k2=>⟨i2,hS.at fun o e=>k2 _ _ e⟩
  simp only [List.mem_cons,List.not_mem_nil,or_false] at hb'
  rcases hb' with rfl | rfl
  ·exact .inr (Nat.le_refl _)
  ·exact .inl rfl
 | false=>
  obtain ⟨hl,hpz⟩ : t.led = true /\ (t.plain = false \/ es.size = 0):=hw.resolve_left (by rw [hb]; exact Bool.false_ne_true)
  by_cases h1 : es.size <= 1
  ·refine wpAny_ite_split (fun c=>?_) fun _=>?_
   ·have c : (!t.plain && decide (es.size > 1)) = true:=c
    rw [decide_eq_false (by omega),Bool.and_false] at c
    cases c
   ·refine wpAny_bind (wpAny_pure ?_)
    refine fin s.heap s.drawn (rawInt 0) (es.toList.map (·.2)) [s.heap.objs.size,a] _ (fun _ _ e=>e) (Nat.le_refl _) (List.Perm.refl _) (fun A hh=>walk_slot (knd:=knd) (t:=t) hb hh (Nat.ne_of_lt haS) hl h1) (fun b hb'=>?_) fun h2 i2 k2=>⟨0,i2,hS.at fun o e=>k2 _ _ e,.inl ⟨rfl,rfl⟩⟩
    simp only [List.mem_cons,List.not_mem_nil,or_false] at hb'
    rcases hb' with rfl | rfl
    ·exact .inr (Nat.le_refl _)
    ·exact .inl rfl
  ·have hpl : t.plain = false:=hpz.resolve_right (by omega)
   refine wpAny_ite_split (fun _=>?_) fun c=>?_
   ·refine wpAny_bind (drawOrder_ok es.size _ (by simp) fun ix d hix=>?_)
    refine wpAny_bind (wpAny_newObj_type ?_ ?_)
    ·have hnew : (s.heap.push { cls:=.type "tuple",data:=.seq (ix.map fun i=>rawInt (i : Nat)).toArray }).objs.size = s.heap.objs.size + 1:=by rw [Heap.size_push]
     refine fin _ d (.ref s.heap.objs.size) (ix.map fun k=>(es.getD k (0,.none)).2) [(s.heap.push { cls:=.type "tuple",data:=.seq (ix.map fun i=>rawInt (i : Nat)).toArray }).objs.size,a,s.heap.objs.size] _ (fun b o e=>Heap.get?_push_of_some _ e) (by rw [hnew]; omega) ?_
      (fun A hh=>walk_drawn (knd:=knd) (t:=t) hh (by rw [hnew]; exact Nat.ne_of_lt (Nat.lt_succ_of_lt haS)) (by rw [hnew]; exact Nat.ne_of_lt (Nat.lt_succ_self _)) hix) (fun b hb'=>?_) fun h2 i2 k2=>⟨i2,hS.at fun o e=>k2 _ _ (Heap.get?_push_of_some _ e),_,k2 _ _ (Heap.get?_push_size _ rfl),rfl,0,rfl⟩
     ·have e : (List.range es.size).map (fun k=>(es.getD k (0,.none)).2) = es.toList.map (·.2):=by
       apply List.ext_getElem
       ·simp
       ·intro k h1 h2
        simp at h1
        simp [Array.getD,h1]
      rw [<- e]
      exact hix.map _
     ·simp only [List.mem_cons,List.not_mem_nil,or_false] at hb'
      rcases hb' with rfl | rfl | rfl
      ·exact .inr (by rw [hnew]; exact Nat.le_succ _)
      ·exact .inl rfl
      ·exact .inr (Nat.le_refl _)
    ·show (ix.map fun i=>rawInt (i : Nat)).toArray.size <= sizeLine
     rw [List.size_toArray,List.length_map,hix.length_eq,List.length_range,sizeLine_eq]
     omega
   ·have c : ¬ (!t.plain && decide (es.size > 1)) = true:=c
    rw [hpl,decide_eq_true (by omega)] at c
    exact absurd rfl c
end
theorem set_len : typeLookup (.type "set") "__len__" = pure (some (.builtin "set.__len__")):=by rw [typeLookup_type,builtinLookup_eq_fast]; kernel_rfl
section
variable {prog : Program} {w : World} {K : Type} [DecidableEq K] {knd : KeyKind prog w K} {A : Around} {E : Value->Shared->Prop} {s : Shared}
theorem extend_set {it : Addr} {fp : List Addr} {vs : List Value} {St : Nat->Heap->Prop} {R : Result->Shared->Prop} (W : SetWalk prog w A.in1 it fp vs St) (hn : vs.length <= sizeLine) (S : Addr) (hSf : S ∉ fp) (res : Value) :
  ∀ (k i : Nat) (s : Shared) (acc : Array Value) (c : Nat),vs.length - i = k->i <= vs.length->St i s.heap->s.heap.get? S = some { cls:=.type "list",dict:=none,data:=.seq acc c,slots:=#[] }->acc.toList = vs.take i->
  (∀ h' acc' c',(∀ b o,b ≠ S->b ≠ it->s.heap.get? b = some o->h'.get? b = some o)->h'.get? S = some { cls:=.type "list",dict:=none,data:=.seq acc' c',slots:=#[] }->acc'.toList = vs->R (.ok (.ret res)) { s with heap:=h' })->
  codeAny (model prog w) A (.builtin "list.extend.loop" ⟨[.ref S,.ref it,res],[]⟩) R s:=by
 have hSi : S ≠ it:=fun z=>hSf (z ▸ W.sub)
 intro k
 induction k with
 | zero=>
  intro i s acc c hk hi hst hS hacc hR
  have hin : i = vs.length:=by omega
  subst hin
  refine codeAny_builtin F.entry_extend_loop ?_
  rw [Around.under_plainId F.plain_extend_loop _]
  show wpAny _ A.in1 (pyNext (.ref it) >>= _) _ _ s
  refine wpAny_bind (W.done s _ _ hst fun h' hm=>?_)
  exact wpAny_pure (hR h' acc c (fun b o _ hb e=>hm b o hb e) (hm S _ hSi hS) (by rw [hacc,List.take_length]))
 | succ k ih=>
  intro i s acc c hk hi hst hS hacc hR
  have hlt : i < vs.length:=by omega
  refine codeAny_builtin F.entry_extend_loop ?_
  rw [Around.under_plainId F.plain_extend_loop _]
  show wpAny _ A.in1 (pyNext (.ref it) >>= _) _ _ s
  refine wpAny_bind (W.item i s _ _ hlt hst fun v h' hv hst' hm=>?_)
  have hS' : h'.get? S = some { cls:=.type "list",dict:=none,data:=.seq acc c,slots:=#[] }:=(hm.2 S hSi).trans hS
  have hsz : acc.size = i:=by rw [<- Array.length_toList,hacc,List.length_take]; omega
  show wpAny _ A.in1 (updateSeq S (·.push v) >>= _) _ _ _
  refine wpAny_bind ?_
  refine wpAny_updateSeq (s:={ s with heap:=h' }) hS' rfl (wpAny_pure ⟨plainId_quiet F.plain_extend_loop _,ih (i + 1) _ (acc.push v) _ (by omega) hlt (W.frame _ h' _ hst' fun b hb o e=>?_) (Heap.get?_update_self _ hS' rfl) ?_ fun h'' acc' c' hk'' hS'' hacc'=>?_⟩)
   (by rw [hsz]; omega) (by show (acc.push v).size <= sizeLine + 1; rw [Array.size_push,hsz]; omega)
  ·exact (Heap.get?_update_other _ _ (fun h : S = b=>hSf (by rw [h]; exact hb))).trans e
  ·rw [Array.toList_push,hacc,List.take_add_one,hv]; rfl
  ·refine hR h'' acc' c' (fun b o hb1 hb2 e=>hk'' b o hb1 hb2 ?_) hS'' hacc'
   exact (Heap.get?_update_other _ _ (fun h : S = b=>hb1 h.symm)).trans ((hm.2 b hb2).trans e)
theorem collect_set {a : Addr} {es : Array (Int × Value)} {ep : Nat} {t : SetTable} {Q : List Value->Shared->Prop} (hh : A.handled = none) (hS : SetAt knd s.heap a es ep t) (hw : Walkable w es t) (hb0 : es.size < 4096)
  (hQ : ∀ vs h' d,vs.Perm (es.toList.map (·.2))->(∀ b o,s.heap.get? b = some o->h'.get? b = some o)->s.heap.objs.size <= h'.objs.size->Q vs { s with heap:=h',drawn:=d }) : wpAny (model prog w) A (collect (.ref a)) Q E s:=by
 obtain ⟨oa,hoa,hex,hda,hel,hf⟩:=id hS
 have haS : a < s.heap.objs.size:=Heap.lt_size hoa
 unfold collect
 refine wpAny_bind (wpAny_runValue (codeAny_builtin F.entry_proto_collect ?_))
 rw [Around.under_plainId F.plain_proto_collect _]
 show wpAny _ A.in1 (newList [] >>= fun l=>again (.builtin "list.__iadd__" ⟨[l,.ref a],[]⟩)) _ _ s
 refine wpAny_bind (wpAny_newObj_type ?_)
 refine wpAny_pure ⟨plainId_quiet F.plain_list_iadd _,codeAny_builtin F.entry_list_iadd ?_⟩
 rw [Around.under_plainId F.plain_list_iadd _]
 show wpAny _ A.in1 (Builtin.List.listExtendWith (.ref s.heap.objs.size) (.ref a) (.ref s.heap.objs.size)) _ _ _
 unfold Builtin.List.listExtendWith
 have S1 : SetAt knd (s.heap.push { cls:=.type "list",data:=.seq ([] : List Value).toArray }) a es ep t:=hS.at fun o e=>Heap.get?_push_of_some _ e
 have T1 : Shared.TypeIs { s with heap:=s.heap.push { cls:=.type "list",data:=.seq ([] : List Value).toArray } } (.ref a) "set":=⟨oa,Heap.get?_push_of_some _ hoa,hex.1⟩
 refine wpAny_bind (wpAny_typeOf T1 ?_)
 have h1 : Builtin.List.listSameRef (.ref s.heap.objs.size) (.ref a) = false:=by simp [Builtin.List.listSameRef]; exact Nat.ne_of_gt haS
 have h2 : (Value.type "set" == Value.type "list") = false:=by decide
 have h3 : (Value.type "set" == Value.type "tuple") = false:=by decide
 simp only [h1,h2,h3,Bool.or_false,Bool.false_eq_true,if_false]
 refine wpAny_bind (pyIter_set S1 hw hb0 fun vs h' d it fp St hp W hst hit hit2 hfp keep=>?_)
 refine wpAny_bind (wpAny_holding ?_)
 unfold Builtin.List.listLengthHint
 have T2 : Shared.TypeIs { s with heap:=h',drawn:=d } (.ref a) "set":=⟨oa,keep _ _ (Heap.get?_push_of_some _ hoa),hex.1⟩
 refine wpAny_bind (wpAny_specialOf T2 set_len ?_)
 wp_delta
 refine wpAny_bind (wpAny_isInstance T2 (b:=true) (by rw [isSubtype_type]; kernel_rfl) ?_)
 show wpAny _ A.in1 (typeOf (Value.ref a) >>= _) _ _ _
 refine wpAny_bind (wpAny_typeOf T2 ?_)
 refine wpAny_pure ?_
 rw [if_pos (by decide)]
 refine wpAny_bind (wpAny_rule ?_)
 generalize hH : s.heap.push { cls:=.type "list",data:=.seq ([] : List Value).toArray } = H at *
 have hHs : H.objs.size = s.heap.objs.size + 1:=by rw [<- hH,Heap.size_push]
 have hS0 : H.get? s.heap.objs.size = some { cls:=.type "list",data:=.seq ([] : List Value).toArray }:=hH ▸ Heap.get?_push_size _ rfl
 have hS1 : h'.get? s.heap.objs.size = some { cls:=.type "list",data:=.seq ([] : List Value).toArray }:=keep _ _ hS0
 refine wpAny_bind ?_
 show wpAny _ A.in1 (updateSeq s.heap.objs.size (·.push .none) >>= fun _=>updateSeq s.heap.objs.size (·.pop)) _ _ _
 refine wpAny_bind (wpAny_updateSeq hS1 rfl ?_)
 have hS2:=Heap.get?_update_self (Obj.mapSeq (·.push Value.none)) hS1 rfl
 refine wpAny_updateSeq hS2 rfl ?_
 have hS3:=Heap.get?_update_self (Obj.mapSeq (·.pop)) hS2 rfl
 have oth : ∀ b o,b ≠ s.heap.objs.size->h'.get? b = some o->((h'.update s.heap.objs.size (Obj.mapSeq (·.push Value.none))).update s.heap.objs.size (Obj.mapSeq (·.pop))).get? b = some o:=
  fun b o hb e=>(Heap.get?_update_other _ _ (Ne.symm hb)).trans ((Heap.get?_update_other _ _ (Ne.symm hb)).trans e)
 have hSf : s.heap.objs.size ∉ fp:=fun hm=>by
  rcases hfp _ hm with z | z
  ·exact absurd haS (by rw [<- z]; exact Nat.lt_irrefl _)
  ·rw [hHs] at z; exact absurd z (Nat.not_succ_le_self _)
 have hlen : vs.length = es.size:=by rw [hp.length_eq]; simp
 refine wpAny_pure ⟨plainId_quiet F.plain_extend_loop _,extend_set (W A.in1 hh) (by rw [hlen,sizeLine_eq]; omega) _ hSf _ vs.length 0 _ _ _ rfl (Nat.zero_le _) ((W A.in1 hh).frame 0 h' _ hst fun b hb o e=>oth b o (fun h=>hSf (h ▸ hb)) e) hS3 rfl fun h'' acc' c' hk hS' hacc=>?_⟩
 show wpAny _ A (load s.heap.objs.size >>= _) _ _ _
 refine wpAny_bind (wpAny_load hS' ?_)
 have:=hQ vs h'' d hp (fun b o e=>?_) (Nat.le_of_lt (Heap.lt_size hS'))
 ·exact wpAny_pure (by rw [hacc]; exact this)
 ·have hlt:=Heap.lt_size e
  refine hk b o (Nat.ne_of_lt hlt) (fun z=>?_) (oth b o (Nat.ne_of_lt hlt) (keep b o (hH ▸ Heap.get?_push_of_some _ e)))
  rw [z] at hlt
  rw [hHs] at hit
  exact absurd (Nat.lt_of_lt_of_le hlt (Nat.le_of_succ_le hit)) (Nat.lt_irrefl _)
end
def kz (e : Int × Value) : Str:=match e.2 with | .str z _=>z | _=>""
structure StrsSet (prog : Program) (w : World) (h : Heap) (a : Addr) (xs : List Str) (es : Array (Int × Value)) : Prop where
 ex : ∃ ep t,SetAt (strKind prog w) h a es ep t /\ t.led = !w.params.followText "set-order" /\ (t.plain = false \/ es.size = 0)
 txts : ∀ e ∈ es.toList,∃ z tk,e.2 = .str z tk
 nd : (es.toList.map kz).Nodup
 mem : ∀ z,z ∈ es.toList.map kz ↔ z ∈ xs
 len : es.size <= xs.length
theorem isStr_kz {e : Int × Value} {z : Str} (h : ∃ z tk,e.2 = .str z tk) : Value.isStrOf z e.2 = true ↔ kz e = z:=by
 obtain ⟨z',tk,e'⟩:=h
 unfold kz
 rw [e']
 refine ⟨fun h=>?_,fun h=>?_⟩
 ·obtain ⟨t,e⟩:=Value.isStrOf_shape h
  injection e
 ·have h : z' = z:=h
  subst h
  simp [Value.isStrOf]
section
variable {prog : Program} {w : World} {A : Around} {E : Value->Shared->Prop} {s : Shared}
theorem strs_add {a : Addr} {xs : List Str} {es : Array (Int × Value)} {z : Str} {tk : Tok} {Q : Bool->Shared->Prop} (hS : StrsSet prog w s.heap a xs es) (hb : xs.length + 1 < 4096)
  (q : ∀ b h' es',Heap.SameBut a s.heap h'->StrsSet prog w h' a (xs++[z]) es'->Q b { s with heap:=h' }) : wpAny (model prog w) A (setAddHashed a (.str z tk) ((strKind prog w).hash z)) Q E s:=by
 obtain ⟨ep,t,hA,hl,hpl⟩:=hS.ex
 have hlen:=hS.len
 refine setAdd_more (knd:=strKind prog w) (k:=z) (by show Value.isStrOf z (.str z tk) = true; simp [Value.isStrOf]) rfl hA (by show _ < 4096; omega) (fun ⟨e,he,hi⟩=>?_) fun hno h' es' ep' t' sb hA' hp hl' hpl'=>?_
 ·have hz : z ∈ xs:=(hS.mem z).mp (List.mem_map.mpr ⟨e,he,(isStr_kz (hS.txts e he)).mp hi⟩)
  have e0 : s = { s with heap:=s.heap }:=by cases s; rfl
  rw [e0]
  refine q false s.heap es (Heap.SameBut.refl _ _) ⟨⟨ep,t,hA,hl,hpl⟩,hS.txts,hS.nd,fun y=>?_,by rw [List.length_append]; omega⟩
  rw [hS.mem y,List.mem_append,List.mem_singleton]
  exact ⟨.inl,fun h=>h.elim id fun e=>e ▸ hz⟩
 ·have hz : z ∉ es.toList.map kz:=fun hm=>by
   obtain ⟨e,he,ek⟩:=List.mem_map.mp hm
   have:=hno e he
   rw [show (strKind prog w).is z e.2 = true from (isStr_kz (hS.txts e he)).mpr ek] at this
   cases this
  have hpk : (es'.toList.map kz).Perm (es.toList.map kz++[z]):=by
   have:=hp.map kz
   rw [List.map_append] at this
   exact this
  refine q true h' es' sb ⟨⟨ep',t',hA',hl'.trans hl,.inl (hpl' rfl)⟩,fun e he=>?_,?_,fun y=>?_,?_⟩
  ·rcases List.mem_append.mp (hp.mem_iff.mp he) with he | he
   ·exact hS.txts e he
   ·rw [List.mem_singleton.mp he]; exact ⟨z,tk,rfl⟩
  ·rw [hpk.nodup_iff,List.nodup_append]
   exact ⟨hS.nd,by simp,fun x hx y hy=>by rw [List.mem_singleton.mp hy]; exact fun e=>hz (e ▸ hx)⟩
  ·rw [hpk.mem_iff,List.mem_append,List.mem_append,List.mem_singleton,hS.mem y]
  ·rw [<- Array.length_toList,hp.length_eq,List.length_append,Array.length_toList,List.length_append]
   simp only [List.length_singleton]
   omega
theorem strs_keep {h h' : Heap} {a : Addr} {xs : List Str} {es : Array (Int × Value)} (x : StrsSet prog w h a xs es) (k : ∀ o,h.get? a = some o->h'.get? a = some o) : StrsSet prog w h' a xs es:=
 ⟨let ⟨ep,t,hA,r⟩:=x.ex; ⟨ep,t,hA.at k,r⟩,x.txts,x.nd,x.mem,x.len⟩
theorem update_loop {R : Result->Shared->Prop} (S I l : Addr) (hSI : S ≠ I) (hSl : S ≠ l) (hlI : l ≠ I) (hh : A.handled = none) {items : Array Value} {zs : List Str} (hz : ∀ (i : Nat) v,items[i]? = some v->∃ z tk,zs[i]? = some z /\ v = .str z tk) (hzl : zs.length = items.size) (hb : items.size + 1 < 4096) :
  ∀ (k i : Nat) (s : Shared) (es : Array (Int × Value)),items.size - i = k->i <= items.size->s.heap.IsListIter I l i->s.heap.IsList l items->StrsSet prog w s.heap S (zs.take i) es->
   (∀ h' tk es',(∀ b o,b ≠ S->b ≠ I->s.heap.get? b = some o->h'.get? b = some o)->StrsSet prog w h' S zs es'->R (.ok (.ret .none)) { s with heap:=h',toks:=tk })->
   codeAny (model prog w) A (.builtin "set.update.loop" ⟨[.ref S,.ref I],[]⟩) R s:=by
 intro k
 induction k with
 | zero=>
  intro i s es hk hi hit hl hS hR
  have hin : i = items.size:=by omega
  subst hin
  refine codeAny_builtin PyProof.Rows.F.entry_set_update_loop ?_
  rw [Around.under_plainId PyProof.Rows.F.plain_set_update_loop _]
  show wpAny _ A.in1 (pyNext (.ref I) >>= _) _ _ s
  refine wpAny_bind (wpAny_pyNext_list_end hh hit hl (by simp) fun h' he=>?_)
  show wpAny _ A.in1 (ret Value.none) _ _ _
  exact wpAny_pure (hR h' s.toks es (fun b o _ hb e=>he b o hb e) (by rw [<- hzl,List.take_length] at hS; exact strs_keep hS fun o e=>he S o hSI e))
 | succ k ih=>
  intro i s es hk hi hit hl hS hR
  have hlt : i < items.size:=by omega
  obtain ⟨z,tk,hzi,hv⟩:=hz i items[i] (Array.getElem?_eq_getElem hlt)
  refine codeAny_builtin PyProof.Rows.F.entry_set_update_loop ?_
  rw [Around.under_plainId PyProof.Rows.F.plain_set_update_loop _]
  show wpAny _ A.in1 (pyNext (.ref I) >>= _) _ _ s
  refine wpAny_bind (wpAny_pyNext_list_item hit hl (Array.getElem?_eq_getElem hlt) fun h' hit' sb=>?_)
  rw [hv]
  show wpAny _ A.in1 (holding [Value.str z tk] (setAdd S (.str z tk)) >>= _) _ _ _
  refine wpAny_bind (wpAny_holding ?_)
  unfold setAdd
  refine wpAny_holding ?_
  refine wpAny_bind ((strKind prog w).pyHash (k:=z) (by show Value.isStrOf z (.str z tk) = true; simp [Value.isStrOf]) ?_)
  have hS' : StrsSet prog w h' S (zs.take i) es:=strs_keep hS fun o e=>(sb.2 S hSI).trans e
  refine strs_add (s:={ s with heap:=h',toks:=_ }) hS' (by rw [List.length_take]; omega) fun b h2 es2 sb2 hS2=>?_
  have e2 : zs.take i++[z] = zs.take (i + 1):=by rw [List.take_add_one,hzi]; rfl
  rw [e2] at hS2
  refine wpAny_pure ⟨plainId_quiet PyProof.Rows.F.plain_set_update_loop _,ih (i + 1) _ es2 (by omega) hlt ?_ ?_ hS2 fun h3 tk3 es3 k3 hS3=>?_⟩
  ·obtain ⟨o,e,r⟩:=hit'
   exact ⟨o,(sb2.2 I (Ne.symm hSI)).trans e,r⟩
  ·obtain ⟨o,e,r⟩:=hl
   exact ⟨o,(sb2.2 l (Ne.symm hSl)).trans ((sb.2 l hlI).trans e),r⟩
  ·exact hR h3 tk3 es3 (fun b o hb1 hb2 e=>k3 b o hb1 hb2 ((sb2.2 b hb1).trans ((sb.2 b hb2).trans e))) hS3
end
section
variable {prog : Program} {w : World} {A : Around} {E : Value->Shared->Prop} {s : Shared}
theorem call_set_strs {l : Addr} {items : Array Value} {zs : List Str} {Q : Value->Shared->Prop} (hh : A.handled = none) (hl : s.heap.IsList l items) (hz : ∀ (i : Nat) v,items[i]? = some v->∃ z tk,zs[i]? = some z /\ v = .str z tk) (hzl : zs.length = items.size) (hb : items.size + 1 < 4096)
  (h : ∀ (h' : Heap) (tk : Nat) es,StrsSet prog w h' s.heap.objs.size zs es->(∀ b o,b < s.heap.objs.size->s.heap.get? b = some o->h'.get? b = some o)->Q (.ref s.heap.objs.size) { s with heap:=h',toks:=tk }) :
  wpAny (model prog w) A (call (.type "set") [.ref l]) Q E s:=by
 obtain ⟨c,tl,hmro⟩:=F.called_set.mro
 have hmade:=F.called_set.made
 have hsub:=F.called_set.sub
 refine wpAny_call (codeAny_of_tree ?_)
 show wpAny _ _ (callAny (.type "set") _) _ _ _
 refine wpAny_pure ⟨Code.quiet_builtin _ (by decide +kernel),codeAny_builtin F.entry_type_call ?_⟩
 rw [Around.under_plain (weight_type_call_type "set" [.ref l] []) rfl]
 have h1:=F.called_set.notType
 have h2:=F.called_set.canCreate
 have hct:=F.typeCall_set_1 (.ref l)
 repeat (any_goals (first | assumption | wp_step))
 have hnew : codeAny (model prog w) A.in1 (.call (.builtin "set.__new__") ⟨[.type "set",.ref l],[]⟩) (wants (fun obj s₁=>obj = .ref s.heap.objs.size /\ s₁ = { s with heap:=s.heap.push { cls:=.type "set",dict:=none,data:=.set #[] 0 (.fresh 0 0 (!w.params.followText "set-order")) } }) E) s:=by
  refine codeAny_of_tree ?_
  show wpAny _ _ (do checkBuiltinCall "set.__new__" ⟨[.type "set",.ref l],[]⟩; again (.builtin "set.__new__" ⟨[.type "set",.ref l],[]⟩)) _ _ s
  refine wpAny_bind (wpAny_of_eq (F.newCall_set_1 (.ref l)) (wpAny_pure ⟨plainId_quiet F.plain_set_new _,codeAny_builtin F.entry_set_new ?_⟩))
  rw [Around.under_plainId F.plain_set_new _]
  unfold Builtin.«set.__new__» Builtin.Frozenset.newClass
  have hsub:=sub_set_self
  obtain ⟨hp,g,d,tk,os⟩:=s
  dsimp only
  wp_walk
  refine wpAny_askSetting (wpAny_pure ?_)
  dsimp only
  simp only [newObj]
  refine wpAny_bind (wpAny_alloc (wpAny_pure ?_))
  exact wpAny_pure ⟨rfl,rfl⟩
 refine codeAny_mono hnew fun r s₁ hr=>?_
 cases r with
 | error e=>exact hr
 | ok fl=>
  cases fl with
  | ret obj=>
   obtain ⟨rfl,rfl⟩:=hr
   generalize hled : (!w.params.followText "set-order") = led at *
   have hS : (s.heap.push { cls:=.type "set",dict:=none,data:=.set #[] 0 (.fresh 0 0 led) }).get? s.heap.objs.size = some { cls:=.type "set",dict:=none,data:=.set #[] 0 (.fresh 0 0 led) }:=Heap.get?_push_size _ rfl
   have hT : Shared.TypeIs { s with heap:=s.heap.push { cls:=.type "set",dict:=none,data:=.set #[] 0 (.fresh 0 0 led) } } (.ref s.heap.objs.size) "set":=⟨_,hS,rfl⟩
   have hli:=F.called_set.init.lookup
   have hbi:=F.called_set.init.bind (.ref s.heap.objs.size)
   repeat (any_goals (first | assumption | wp_step))
   refine codeAny_mono (codeAny_call_builtin (R:=wants (fun r s₂=>r = .none /\ ∃ h' tk es,s₂ = { s with heap:=h',toks:=tk } /\ StrsSet prog w h' s.heap.objs.size zs es /\
     (∀ b o,b < s.heap.objs.size->s.heap.get? b = some o->h'.get? b = some o)) E) F.called_set.init.plain F.entry_set_init (check_set_init_1 hT ?_)) fun r₂ s₂ hr₂=>?_
   ·obtain ⟨ol,hol,hcl,nl,hdl⟩:=hl
    obtain ⟨ocls,odict,odata,oslots⟩:=ol
    simp only at hcl hdl
    subst hcl; subst hdl
    have hol' : (s.heap.push { cls:=.type "set",dict:=none,data:=.set #[] 0 (.fresh 0 0 led) }).get? l = some { cls:=.type "list",dict:=odict,data:=.seq items nl,slots:=oslots }:=Heap.get?_push_of_some _ hol
    have hsls:=F.sub_list_set
    have hslf:=F.sub_list_frozenset
    have hne : (Value.type "list" == Value.type "dict") = false:=by decide
    have hl1 : (s.heap.push { cls:=.type "set",dict:=none,data:=.set #[] 0 (.fresh 0 0 led) }).IsList l items:=⟨_,hol',rfl,nl,rfl⟩
    unfold Builtin.«set.__init__» noKeywords Builtin.Frozenset.updateFrom
    generalize hPI : pyIter = PI
    wp_walk
    subst hPI
    refine wpAny_pyIter_list hl1 ?_
    refine wpAny_bind (wpAny_runValue ?_)
    have hlS : l < s.heap.objs.size:=Heap.lt_size hol
    have hlI : l ≠ (s.heap.push { cls:=.type "set",dict:=none,data:=.set #[] 0 (.fresh 0 0 led) }).objs.size:=by
     rw [Heap.size_push]; exact Nat.ne_of_lt (Nat.lt_succ_of_lt hlS)
    have hSI : s.heap.objs.size ≠ (s.heap.push { cls:=.type "set",dict:=none,data:=.set #[] 0 (.fresh 0 0 led) }).objs.size:=by
     rw [Heap.size_push]; exact Nat.ne_of_lt (Nat.lt_succ_self _)
    refine update_loop (es:=#[]) s.heap.objs.size _ l hSI (Nat.ne_of_gt hlS) hlI (by simp [hh]) hz hzl hb items.size 0 _ (by omega) (Nat.zero_le _) ⟨_,Heap.get?_push_size _ rfl,rfl,rfl⟩ (hl1.push _) ?hS0 ?hR
    case hS0=>
     refine ⟨⟨0,_,⟨_,Heap.get?_push_of_some _ hS,⟨rfl,rfl,rfl⟩,rfl,fun e he=>by simp at he,rfl⟩,hled.symm,.inr rfl⟩,fun e he=>by simp at he,by simp,fun z=>by simp,by simp⟩
    case hR=>
     intro h' tk' es' hk hS'
     refine wpAny_pure ?_
     show wpAny _ _ (ret Value.none) _ _ _
     refine wpAny_pure ⟨rfl,h',tk',es',rfl,hS',fun b o hb' e=>?_⟩
     refine hk b o (Nat.ne_of_lt hb') (fun z=>?_) (Heap.get?_push_of_some _ (Heap.get?_push_of_some _ e))
     rw [z,Heap.size_push] at hb'
     exact absurd hb' (Nat.not_lt.mpr (Nat.le_succ _))
   ·cases r₂ with
    | error e=>exact hr₂
    | ok fl₂=>
     cases fl₂ with
     | ret r=>
      obtain ⟨rfl,h',tk,es',rfl,hS',hk'⟩:=hr₂
      repeat (any_goals (first | assumption | wp_step))
      exact h _ _ _ hS' hk'
     | _=>exact hr₂.elim
  | _=>exact hr.elim
end
open PySem PyProof.Rows
section
variable {prog : Program} {w : World} {A : Around} {E : Value->Shared->Prop} {s : Shared}
theorem sorted_by_collect {v : Value} {Q : Value->Shared->Prop} (h : wpAny (model prog w) A.in1 (collect v) (fun vs s1=>vs.length < 64 /\ ∃ ss,StrsAre vs ss /\
   ∀ (h' : Heap) (out : List Value) (ss' : List Str) (n : Nat),(∀ b o,s1.heap.get? b = some o->h'.get? b = some o)->h'.get? s1.heap.objs.size = some (seqObj "list" out.toArray n)->StrsAre out ss'->ss'.Perm ss->sortedS ss' = true->Q (.ref s1.heap.objs.size) { s1 with heap:=h' }) E s) :
  wpAny (model prog w) A (call (.builtin "sorted") [v]) Q E s:=by
 refine Calls.call_function_entry kind_sorted plain_sorted entry_sorted (args_sorted1 _) ?_
 unfold Builtin.«sorted»
 refine wpAny_bind (m:=checkCount "sorted" 1 1 _) (wpAny_pure ?_)
 refine wpAny_bind (wpAny_mono h (fun vs s1 hv=>?_) fun _ _ e=>e)
 obtain ⟨h64,ss,hS,q⟩:=hv
 refine wpAny_bind (wpAny_newList ?_ (by rw [sizeLine_eq]; omega))
 have hoL : (s1.heap.push (seqObj "list" vs.toArray 0)).get? s1.heap.objs.size = some (seqObj "list" vs.toArray 0):=Heap.get?_push_size _ rfl
 refine wpAny_bind (wpAny_holding (wpAny_call_entry slot_list_sort ⟨_,hoL,rfl⟩ entry_list_sort (list_sort_treeK strKind_oneLt hoL hS.keysOf (fun v₁ v₂ rest e=>keyKind_strs (by rw [<- e]; exact hS)) h64 fun st' a1 a2=>⟨_,rfl,?_⟩) (args_list_sort _)))
 obtain ⟨ss',h1,h2,h3⟩:=sorted_out_str hS a1 a2
 obtain ⟨n,hn⟩:=sortedHeap_at (out:=(arrOf st').map (·.2)) hoL
 refine wpAny_pure ⟨_,rfl,?_⟩
 have e : ((arrOf st').map (·.2)).toList.toArray = (arrOf st').map (·.2):=Array.toArray_toList
 refine q _ ((arrOf st').map (·.2)).toList ss' n (fun b o eb=>?_) (by rw [e]; exact hn) h1 h2 h3
 have hlt:=Heap.lt_size eb
 rw [sortedHeap_old (Nat.ne_of_lt hlt) (by rw [size_push']; exact Nat.lt_succ_of_lt hlt)]
 exact Heap.get?_push_of_some _ eb
theorem StrsAre.perm {vs : List Value} {es : List (Int × Value)} (h : ∀ e ∈ es,∃ z tk,e.2 = Value.str z tk) (p : vs.Perm (es.map (·.2))) : StrsAre vs (vs.map strOf) /\ (vs.map strOf).Perm (es.map kz):=by
 refine ⟨strsAre_map vs fun v hv=>?_,?_⟩
 ·obtain ⟨e,he,rfl⟩:=List.mem_map.mp (p.mem_iff.mp hv)
  exact h e he
 ·have:=p.map strOf
  rw [List.map_map] at this
  have e : es.map (strOf ∘ fun x=>x.2) = es.map kz:=List.map_congr_left fun x hx=>by
   obtain ⟨z,tk,e1⟩:=h x hx
   show strOf x.2 = kz x
   unfold kz; rw [e1]; rfl
  rw [e] at this
  exact this
theorem sorted_strset {a : Addr} {xs : List Str} {es : Array (Int × Value)} {Q : Value->Shared->Prop} (hh : A.handled = none) (hS : StrsSet prog w s.heap a xs es) (h64 : xs.length < 64)
  (h : ∀ (h' : Heap) (d : Drawn) (p : Addr) (out : List Value) (ys : List Str) (n : Nat),s.heap.objs.size <= p->(∀ b o,s.heap.get? b = some o->h'.get? b = some o)->h'.get? p = some (seqObj "list" out.toArray n)->StrsAre out ys->ys.Nodup->(∀ z,z ∈ ys ↔ z ∈ xs)->sortedS ys = true->Q (.ref p) { s with heap:=h',drawn:=d }) :
  wpAny (model prog w) A (call (.builtin "sorted") [.ref a]) Q E s:=by
 obtain ⟨ep,t,hA,hl,hp⟩:=hS.ex
 have hlen:=hS.len
 refine sorted_by_collect (collect_set (A:=A.in1) hh hA ?_ (by omega) fun vs h1 d hpm keep hge=>?_)
 ·unfold Walkable
  cases hb : w.params.followText "set-order" with
  | true=>exact .inl rfl
  | false=>rw [hb] at hl; exact .inr ⟨hl,hp⟩
 ·obtain ⟨s1,p1⟩:=StrsAre.perm hS.txts hpm
  refine ⟨by rw [hpm.length_eq]; simp; omega,_,s1,fun h' out ss' n k2 ho so po so2=>?_⟩
  have p2 : ss'.Perm (es.toList.map kz):=po.trans p1
  exact h h' d _ out ss' n hge (fun b o e=>k2 b o (keep b o e)) ho so (p2.nodup_iff.mpr hS.nd) (fun z=>by rw [p2.mem_iff,hS.mem z]) so2
end
def insS (z : Str) : List Str->List Str
 | []=>[z]
 | y::ys=>if z = y then y::ys else if sLt z y = true then z::y::ys else y::insS z ys
def sortS : List Str->List Str
 | []=>[]
 | z::zs=>insS z (sortS zs)
theorem insS_mem {z x : Str} : ∀ {ys : List Str},x ∈ insS z ys ↔ x = z \/ x ∈ ys
 | []=>by simp [insS]
 | y::ys=>by
  unfold insS
  split
  ·rename_i e; subst e; simp
  ·split
   ·simp
   ·rw [List.mem_cons,insS_mem,List.mem_cons]
    constructor
    ·rintro (h | h | h)
     ·exact .inr (.inl h)
     ·exact .inl h
     ·exact .inr (.inr h)
    ·rintro (h | h | h)
     ·exact .inr (.inl h)
     ·exact .inl h
     ·exact .inr (.inr h)
theorem insS_ord {z : Str} : ∀ {ys : List Str},ys.Pairwise (fun a b=>sLt a b = true)->(insS z ys).Pairwise (fun a b=>sLt a b = true)
 | [],_=>by simp [insS]
 | y::ys,h=>by
  have h':=List.pairwise_cons.mp h
  unfold insS
  split
  ·exact h
  ·rename_i ne
   split
   ·rename_i lt
    refine List.pairwise_cons.mpr ⟨fun x hx=>?_,h⟩
    rcases List.mem_cons.mp hx with rfl | hx
    ·exact lt
    ·exact sto_str.tr _ _ _ lt (h'.1 x hx)
   ·rename_i nlt
    refine List.pairwise_cons.mpr ⟨fun x hx=>?_,insS_ord h'.2⟩
    rcases insS_mem.mp hx with rfl | hx
    ·exact sto_str.ne (by simpa using nlt) ne
    ·exact h'.1 x hx
theorem sortS_ord : ∀ zs : List Str,(sortS zs).Pairwise (fun a b=>sLt a b = true)
 | []=>List.Pairwise.nil
 | z::zs=>insS_ord (sortS_ord zs)
theorem sortS_mem {x : Str} : ∀ {zs : List Str},x ∈ sortS zs ↔ x ∈ zs
 | []=>Iff.rfl
 | z::zs=>by show x ∈ insS z (sortS zs) ↔ _; rw [insS_mem,sortS_mem,List.mem_cons]
theorem insS_len {z : Str} : ∀ {ys : List Str},(insS z ys).length <= ys.length + 1
 | []=>by simp [insS]
 | y::ys=>by
  have:=insS_len (z:=z) (ys:=ys)
  unfold insS
  split
  ·simp
  ·split
   ·simp
   ·simp only [List.length_cons]; omega
theorem sortS_len : ∀ {zs : List Str},(sortS zs).length <= zs.length
 | []=>Nat.le_refl _
 | z::zs=>by
  have h1:=insS_len (z:=z) (ys:=sortS zs)
  have h2:=sortS_len (zs:=zs)
  show (insS z (sortS zs)).length <= _
  simp only [List.length_cons]; omega
theorem ord_nodup {ys : List Str} (h : ys.Pairwise (fun a b=>sLt a b = true)) : ys.Nodup:=h.imp fun {a b} e z=>by rw [z,sto_str.irr] at e; cases e
theorem ord_ge {ys : List Str} (h : ys.Pairwise (fun a b=>sLt a b = true)) : ys.Pairwise (fun a b=>sLt b a = false):=h.imp fun {a b} e=>sto_str.asy e
theorem ord_one {xs ys : List Str} (h1 : xs.Pairwise (fun a b=>sLt a b = true)) (h2 : ys.Pairwise (fun a b=>sLt a b = true)) (m : ∀ z,z ∈ xs ↔ z ∈ ys) : xs = ys:=
 sorted_unique sto_str ((List.perm_ext_iff_of_nodup (ord_nodup h1) (ord_nodup h2)).mpr m) (ord_ge h1) (ord_ge h2)
theorem sortS_is {zs ys : List Str} (hn : ys.Nodup) (hm : ∀ z,z ∈ ys ↔ z ∈ zs) (ho : ys.Pairwise (fun a b=>sLt b a = false)) : ys = sortS zs:=by
 refine ord_one ?_ (sortS_ord zs) fun z=>by rw [hm,sortS_mem]
 exact List.Pairwise.imp₂ (fun a b e n=>sto_str.ne e (Ne.symm n)) ho hn
@[simp] def fSortSet (f : FE) : FR:=fun δ=>(f δ).bind fun d=>match d with | .lst ds=>(strsD ds).bind fun zs=>if zs.length < 64 then some (.fr (.lst ((sortS zs).map .str))) else none | _=>none
open PySem PySem.Spec PyProof.Rows
def SetX (prog : Program) (w : World) (a : Addr) (zs : List Str) : Heap->Prop:=fun h=>∃ es,StrsSet prog w h a zs es
theorem strs_vals {zs : List Str} {its : List Value} : Vals (zs.map V.str) its->∀ (i : Nat) (v : Value),its.toArray[i]? = some v->∃ z tk,zs[i]? = some z /\ v = .str z tk:=fun h i v e=>by
 have e' : its[i]? = some v:=by simpa using e
 have hl:=h.length
 have hi : i < zs.length:=by have:=(List.getElem?_eq_some_iff.mp e').1; simp at hl; omega
 have e1 : (zs.map V.str)[i]? = some (V.str zs[i]):=by simp [hi]
 obtain ⟨u,e2,r⟩:=h.get e1
 rw [e'] at e2
 cases e2
 obtain ⟨t,rfl⟩:=r
 exact ⟨zs[i],t,List.getElem?_eq_getElem hi,rfl⟩
theorem strsAre_vals : ∀ {out : List Value} {ys : List Str},StrsAre out ys->Vals (ys.map V.str) out
 | _,_,.nil=>.nil
 | _,_,.cons x t h=>.cons ⟨t,rfl⟩ (strsAre_vals h)
theorem rising_ord : ∀ (p : Str) (r : List Str),risingS p r = true->(p::r).Pairwise (fun a b=>sLt b a = false)
 | p,[],_=>by simp
 | p,x::r,h=>by
  unfold risingS at h
  rw [Bool.and_eq_true,Bool.not_eq_true',ltCps_eq] at h
  have h1 : sLt x p = false:=h.1
  have ih:=rising_ord x r h.2
  refine List.pairwise_cons.mpr ⟨fun y hy=>?_,ih⟩
  rcases List.mem_cons.mp hy with rfl | hy
  ·exact h1
  ·exact sto_str.ngt ((List.pairwise_cons.mp ih).1 y hy) h1
theorem sortedS_ord {ys : List Str} (h : sortedS ys = true) : ys.Pairwise (fun a b=>sLt b a = false):=by
 cases ys with
 | nil=>exact List.Pairwise.nil
 | cons x r=>exact rising_ord x r h
section
variable {X : Cx} {pins : List (Addr × Obj)} {σ : St} {H : Hp} {s : Shared}
theorem Inv.drew {h' : Heap} {t' : Nat} {d' : Drawn} {H' : Hp} (I : Inv X pins σ H' { s with heap:=h',toks:=t' }) : Inv X pins σ H' { s with heap:=h',toks:=t',drawn:=d' }:=
 ⟨I.ok,I.os,I.bare,I.base,I.loc,I.cell,I.free,I.freeC,I.pin,I.hok,I.len⟩
theorem call_setL (hc : X.calm = true) : CallR X (.type "set") (fun xs H Q=>∃ l zs,xs = [.ref l] /\ SqL X.K H l (zs.map V.str) /\ zs.length < 4000 /\ ∀ p,H p = none->Q (.ref p) (upd H p (.ext (SetX X.prog X.w p zs)))):=by
 intro pins s σ H xs us Q I r h
 obtain ⟨l,zs,rfl,hq,hz,q⟩:=h
 obtain ⟨u,rfl,rx⟩:=vals1 r
 cases rx
 obtain ⟨its,rv,pl,_⟩:=I.list hq
 have hlen : zs.length = its.length:=by have:=rv.length; simpa using this
 refine call_set_strs (I.ok.hd hc) pl.isList (strs_vals rv) (by simpa using hlen) (by rw [List.size_toArray]; omega) fun h' tk es hS keep=>?_
 have hn : H s.heap.objs.size = none:=I.hok.fresh (Nat.le_refl _)
 refine ⟨.ref _,_,I.laid (t':=tk) (h':=h') (fun b o e=>keep b o (Heap.lt_size e) e) (Nat.le_refl _) ?_,rfl,q _ hn⟩
 obtain ⟨ep,t,⟨o,ho,_⟩,_⟩:=hS.ex
 exact ⟨⟨es,hS⟩,⟨o,ho⟩,fun h1 h2 ⟨es',S'⟩ k=>⟨es',strs_keep S' k⟩⟩
theorem call_sortedS (hc : X.calm = true) : CallR X (.builtin "sorted") (fun xs H Q=>∃ a zs,xs = [.ref a] /\ H a = some (.ext (SetX X.prog X.w a zs)) /\ zs.length < 64 /\ ∀ p,H p = none->Q (.ref p) (upd H p (.lst ((sortS zs).map V.str)))):=by
 intro pins s σ H xs us Q I r h
 obtain ⟨a,zs,rfl,hq,hz,q⟩:=h
 obtain ⟨u,rfl,rx⟩:=vals1 r
 cases rx
 obtain ⟨⟨es,hS⟩,_⟩:=I.hok a _ hq
 refine sorted_strset (I.ok.hd hc) hS hz fun h' d p out ys n hp keep ho so nd mem ord=>?_
 have hn : H p = none:=I.hok.fresh hp
 have e : ys = sortS zs:=sortS_is nd mem (sortedS_ord ord)
 subst e
 refine ⟨.ref p,_,Inv.drew (I.laid (t':=s.toks) (h':=h') keep hp ?_),rfl,q _ hn⟩
 have hl : ((sortS zs).map V.str).length <= sizeLine:=by
  have h1:=sortS_len (zs:=zs)
  rw [List.length_map,sizeLine_eq]; omega
 exact ⟨hl,out,n,strsAre_vals so,ho⟩
theorem strsD_map : ∀ {ds : List D} {zs : List Str},strsD ds = some zs->ds = zs.map .str
 | [],zs,h=>by cases h; rfl
 | d::ds,zs,h=>by
  cases d with
  | str z=>
   simp only [strsD] at h
   obtain ⟨ys,e1,rfl⟩:=omE h
   rw [strsD_map e1]; rfl
  | _=>cases h
theorem repL_strs' {K : PySem.W.Frag} {G : Hp} : ∀ {zs : List Str} {vs : List V},RepL K G (zs.map .str) vs->vs = zs.map V.str
 | [],vs,h=>by simp only [List.map_nil,RepL] at h; subst h; rfl
 | z::zs,vs,h=>by
  simp only [List.map_cons,RepL,Rep] at h
  obtain ⟨v,r,rfl,rfl,h3⟩:=h
  rw [repL_strs' h3]; rfl
section
variable {X : Cx} {e : Expr} {f : FE} {p1 p2 q1 q2 : Pos}
theorem pr_sortSet (hc : X.calm = true) (hm1 : X.mg "sorted" = none) (hm2 : X.mg "set" = none) (he : PB X e f) (hg1 : Gl X "sorted":=by rfl) (hg2 : Gl X "set":=by rfl)
  (h1 : starEach [.Call (.Name "set" q1) [e] [] q2] X.env = (false,eval (.Call (.Name "set" q1) [e] [] q2) X.env)::starEach [] X.env:=by rfl) (h2 : starEach [e] X.env = (false,eval e X.env)::starEach [] X.env:=by rfl) :
  PR X (.Call (.Name "sorted" p1) [.Call (.Name "set" q1) [e] [] q2] [] p2) (fSortSet f):=by
 obtain ⟨te,pe,ke⟩:=he
 refine ⟨_,pe_callB (call_sortedS hc) hg1 hm1 boot_sorted (pa_cons (pe_callTy (call_setL hc) hg2 hm2 boot_set (pa_cons pe pa_nil h2) (by decide) (by decide) h2) pa_nil h1) (by decide) (by decide) h1,fun B G H δ σ r Q sG rs ef k=>?_⟩
 unfold fSortSet at ef
 obtain ⟨d,e1,ef⟩:=obE ef
 cases d with
 | lst ds=>
  dsimp only at ef
  obtain ⟨zs,e2,ef⟩:=obE ef
  split at ef
  ·rename_i hz
   cases ef
   obtain rfl:=strsD_map e2
   refine ke B G H δ σ (.lst (zs.map .str)) _ sG rs e1 fun v G1 H1 g1 rb=>?_
   obtain ⟨a,vs,rfl,hq,rl⟩:=rb.lst g1.s
   obtain rfl:=repL_strs' rl
   refine ⟨a,zs,rfl,hq,by omega,fun p hp=>?_⟩
   refine ⟨p,zs,rfl,upd_same,hz,fun p2 hp2=>?_⟩
   have hne : p2 ≠ p:=fun z=>by rw [z,upd_same] at hp2; cases hp2
   have g2 : Grow G H G1 (upd H1 p (.ext (SetX X.prog X.w p zs))):=⟨g1.g,fun b u e=>by rw [upd_ne (ne_of_none (g1.h _ _ e) hp)]; exact g1.h _ _ e,fun b u e=>by rw [upd_ne (ne_of_none (g1.s _ _ e) hp)]; exact g1.s _ _ e,g1.n⟩
   exact k p2 ((sortS zs).map V.str) G1 _ g2 hp2 trivial (repL_strs _)
  ·cases ef
 | _=>cases ef
end
end
section
variable {X : Cx}
end
section
variable {X : Cx}
end
section
variable {X : Cx} {e : Expr} {es : List Expr} {pos p : Pos}
end
section
variable {δ : En} {i : Nat} {f : FE} {N : En->Prop} {T : Rs->En->Prop}
end
section
variable {X : Cx}
end
section
variable {δ : En} {i j : Nat} {g : En->Option (List D)} {F : FS} {N : En->Prop} {T : Rs->En->Prop}
end
section
variable {prog : Program} {w : World} {A : Around} {E : Value->Shared->Prop} {s : Shared}
end
section
variable {X : Cx}
end
section
variable {X : Cx} {e0 : Expr} {np cpos pos : Pos} {c attr q par : Str} {st : Stmt} {g : FE}
end
section
variable {K : PySem.W.Frag} {c attr q : Str} {C f : Addr} {st : Stmt} {od : Option Addr} {kV doc pm cdv ct : Value} {an : Option Addr} {osl : Array (Option Value)}
end
section
variable {X : Cx}
def rStarts : V->List V->Hp->VK->Prop:=fun x vs H Q=>∃ a b,x = .str a /\ vs = [.str b] /\ Q (.bl (Txt.startswith a b)) H
theorem mt_starts : MtR X "str.startswith" rStarts:=by
 intro pins s σ H x vs v us Q I rx rv h
 obtain ⟨a,b,rfl,rfl,q⟩:=h
 obtain ⟨t,rfl⟩:=rx
 obtain ⟨u,rfl,ru⟩:=rv.one
 obtain ⟨t',rfl⟩:=ru
 exact SC.startswith ⟨.bl _,H,I,rfl,q⟩
def startsD : D->D->Option D
 | .str x,.str y=>some (.bl (Txt.startswith x y))
 | _,_=>none
theorem pd_starts {o a : Expr} {fo fa : FE} {p1 p2 : Pos} (ho : PD X o fo) (ha : PD X a fa)
  (hb : ∀ {to ta : TE},PE X o to->PE X a ta->PE X (.Call (.Attribute o "startswith" p1) [a] [] p2) (tBM X.K "str" rStarts to (tCons ta tNil)):=by
   intro to ta hx ht; exact pe_bm PySem.F.plainAttrs_str PySem.F.slot_str_startswith PySem.F.type_str_startswith mt_starts hx (pa_cons ht pa_nil)) :
  PD X (.Call (.Attribute o "startswith" p1) [a] [] p2) (f2 startsD fo fa):=by
 obtain ⟨t1,q1,k1⟩:=ho
 obtain ⟨t2,q2,k2⟩:=ha
 refine ⟨_,hb q1 q2,fun B G H δ σ d Q sG rs ef k=>?_⟩
 unfold f2 at ef
 obtain ⟨x,e1,ef⟩:=obE ef
 obtain ⟨y,e2,ef⟩:=obE ef
 unfold startsD at ef
 split at ef
 ·cases ef
  refine k1 B G H δ σ _ _ sG rs e1 fun v G1 H1 g1 r1=>?_
  simp only [Rep] at r1
  subst r1
  refine ⟨rfl,k2 B G1 H1 δ σ _ _ g1.s (rs.grow g1) e2 fun u G2 H2 g2 r2=>?_⟩
  simp only [Rep] at r2
  subst r2
  exact ⟨_,_,rfl,rfl,k _ G2 H2 (g1.trans g2) (by simp [Rep])⟩
 ·cases ef
theorem vals_strs : ∀ (l : List (Str × Tok)),Vals ((l.map (·.1)).map V.str) (strValues l)
 | []=>.nil
 | p::l=>.cons ⟨p.2,rfl⟩ (vals_strs l)
def SplitOk (a b : Str) : Prop:=(b.length == 0) = false /\ a.length <= sizeLine /\ (Builtin.Str.partsBetween a (Builtin.Str.occurrences a b 0 a.length (a.length + 1)) b.length).length <= sizeLine
instance (a b : Str) : Decidable (SplitOk a b):=inferInstanceAs (Decidable (_ /\ _ /\ _))
theorem split_len {a b : Str} (h : SplitOk a b) : (Txt.split a b).length <= sizeLine:=by
 unfold Txt.split
 split
 ·show 1 <= sizeLine; decide
 ·split
  ·show 1 <= sizeLine; decide
  ·exact h.2.2
def rSplit : V->List V->Hp->VK->Prop:=fun x vs H Q=>∃ a b,x = .str a /\ vs = [.str b] /\ SplitOk a b /\ ∀ p,H p = none->Q (.ref p) (upd H p (.lst ((Txt.split a b).map V.str)))
theorem mt_split : MtR X "str.split" rSplit:=by
 intro pins s σ H x vs v us Q I rx rv h
 obtain ⟨a,b,rfl,rfl,ok,q⟩:=h
 obtain ⟨t,rfl⟩:=rx
 obtain ⟨u,rfl,ru⟩:=rv.one
 obtain ⟨t',rfl⟩:=ru
 have fin : ∀ (l : List (Str × Tok)) (k : Nat),l.map (·.1) = Txt.split a b->EP X pins σ Q (.ref s.heap.objs.size) { s with toks:=k,heap:=s.heap.push { cls:=.type "list",data:=.seq (strValues l).toArray } }:=fun l k e=>by
  refine ⟨.ref s.heap.objs.size,upd H s.heap.objs.size (.lst ((Txt.split a b).map V.str)),?_,rfl,q _ I.fresh⟩
  rw [<- e]
  exact I.lnew (vals_strs l) (by rw [List.length_map,e]; exact split_len ok)
 cases h1 : (decide (a.length < b.length) || decide (Builtin.Str.strKind a < Builtin.Str.strKind b))
 ·cases hf : (Builtin.Str.occurrences a b 0 a.length (a.length + 1)).isEmpty
  ·refine call_meets F.slot_str_split (typeIs_str _ _ _) F.entry_str_split (F.args_str_split_2 _ _) (meets_str_split_sep a b t t' h1 ok.1 hf ok.2.1 ok.2.2) ?_
   rw [strsFrom_eq]
   exact fin (numbered s.toks _) _ ((numbered_texts _ _).trans ((if_neg (ne_true_of_eq_false h1)).trans (if_neg (ne_true_of_eq_false hf))).symm)
  ·exact call_meets F.slot_str_split (typeIs_str _ _ _) F.entry_str_split (F.args_str_split_2 _ _) (meets_str_split_not_found a b t t' h1 ok.1 hf) (fin [(a,t)] _ ((if_neg (ne_true_of_eq_false h1)).trans (if_pos hf)).symm)
 ·exact call_meets F.slot_str_split (typeIs_str _ _ _) F.entry_str_split (F.args_str_split_2 _ _) (meets_str_split_cannot_occur a b t t' h1) (fin [(a,t)] _ (if_pos h1).symm)
def splitD : D->D->Option Rs
 | .str x,.str y=>if SplitOk x y then some (.fr (.lst ((Txt.split x y).map D.str))) else none
 | _,_=>none
@[simp] def fSplit (f g : FE) : FR:=fun δ=>(f δ).bind fun x=>(g δ).bind fun y=>splitD x y
theorem pr_split {o a : Expr} {fo fa : FE} {p1 p2 : Pos} (ho : PD X o fo) (ha : PD X a fa)
  (hb : ∀ {to ta : TE},PE X o to->PE X a ta->PE X (.Call (.Attribute o "split" p1) [a] [] p2) (tBM X.K "str" rSplit to (tCons ta tNil)):=by
   intro to ta hx ht; exact pe_bm PySem.F.plainAttrs_str PySem.F.slot_str_split PySem.F.type_str_split mt_split hx (pa_cons ht pa_nil)) :
  PR X (.Call (.Attribute o "split" p1) [a] [] p2) (fSplit fo fa):=by
 obtain ⟨t1,q1,k1⟩:=ho
 obtain ⟨t2,q2,k2⟩:=ha
 refine ⟨_,hb q1 q2,fun B G H δ σ d Q sG rs ef k=>?_⟩
 unfold fSplit at ef
 obtain ⟨x,e1,ef⟩:=obE ef
 obtain ⟨y,e2,ef⟩:=obE ef
 unfold splitD at ef
 split at ef
 ·split at ef
  ·rename_i ok
   cases ef
   refine k1 B G H δ σ _ _ sG rs e1 fun v G1 H1 g1 r1=>?_
   simp only [Rep] at r1
   subst r1
   refine ⟨rfl,k2 B G1 H1 δ σ _ _ g1.s (rs.grow g1) e2 fun u G2 H2 g2 r2=>?_⟩
   simp only [Rep] at r2
   subst r2
   exact ⟨_,_,rfl,rfl,ok,fun p hp=>k p _ G2 H2 (g1.trans g2) hp True.intro (repL_strs _)⟩
  ·cases ef
 ·cases ef
def partT (x y : Str) : List Str:=match Builtin.Str.occurrences x y 0 x.length 1 with
 | i::_=>[Builtin.Str.strSub x 0 i,y,Builtin.Str.strSub x (i + y.length) x.length]
 | []=>[x,Str.empty,Str.empty]
theorem partT_len {x y : Str} : (partT x y).length = 3:=by unfold partT; split <;> rfl
def rPart : V->List V->Hp->VK->Prop:=fun x vs H Q=>∃ a b,x = .str a /\ vs = [.str b] /\ (b.length == 0) = false /\ a.length <= sizeLine /\ ∀ p,H p = none->Q (.ref p) (upd H p (.tup ((partT a b).map V.str)))
theorem mt_part : MtR X "str.partition" rPart:=by
 intro pins s σ H x vs v us Q I rx rv h
 obtain ⟨a,b,rfl,rfl,hb,ha,q⟩:=h
 obtain ⟨t,rfl⟩:=rx
 obtain ⟨u,rfl,ru⟩:=rv.one
 obtain ⟨t',rfl⟩:=ru
 have fin : ∀ (l : List (Str × Tok)) (k : Nat),l.map (·.1) = partT a b->EP X pins σ Q (.ref s.heap.objs.size) { s with toks:=k,heap:=s.heap.push { cls:=.type "tuple",data:=.seq (strValues l).toArray } }:=fun l k e=>by
  refine ⟨.ref s.heap.objs.size,upd H s.heap.objs.size (.tup ((partT a b).map V.str)),?_,rfl,q _ I.fresh⟩
  rw [<- e]
  refine I.laid (fun b u e=>Heap.get?_push_of_some _ e) (Nat.le_refl _) ?_
  exact ⟨by rw [List.length_map,e,partT_len]; decide,strValues l,vals_strs l,⟨_,Heap.get?_push_size _ rfl,rfl,_,rfl⟩⟩
 refine call_meets F.slot_str_partition (typeIs_str _ _ _) F.entry_str_partition (F.args_str_partition_2 _ _) (meets_str_partition a b t t' hb ha) ?_
 unfold partT at fin
 revert fin
 cases Builtin.Str.occurrences a b 0 a.length 1 with
 | nil=>exact fun fin=>fin [(a,t),(Str.empty,s.toks),(Str.empty,s.toks)] _ rfl
 | cons i r=>exact fun fin=>fin [(Builtin.Str.strSub a 0 i,s.toks),(b,t'),(Builtin.Str.strSub a (i + b.length) a.length,s.toks + 1)] _ rfl
def partD : D->D->Option D
 | .str x,.str y=>if (y.length == 0) = false /\ x.length <= sizeLine then some (.tup ((partT x y).map D.str)) else none
 | _,_=>none
theorem pd_part {o a : Expr} {fo fa : FE} {p1 p2 : Pos} (ho : PD X o fo) (ha : PD X a fa)
  (hb : ∀ {to ta : TE},PE X o to->PE X a ta->PE X (.Call (.Attribute o "partition" p1) [a] [] p2) (tBM X.K "str" rPart to (tCons ta tNil)):=by
   intro to ta hx ht; exact pe_bm PySem.F.plainAttrs_str PySem.F.slot_str_partition PySem.F.type_str_partition mt_part hx (pa_cons ht pa_nil)) :
  PD X (.Call (.Attribute o "partition" p1) [a] [] p2) (f2 partD fo fa):=by
 obtain ⟨t1,q1,k1⟩:=ho
 obtain ⟨t2,q2,k2⟩:=ha
 refine ⟨_,hb q1 q2,fun B G H δ σ d Q sG rs ef k=>?_⟩
 unfold f2 at ef
 obtain ⟨x,e1,ef⟩:=obE ef
 obtain ⟨y,e2,ef⟩:=obE ef
 unfold partD at ef
 split at ef
 ·split at ef
  ·rename_i ok
   cases ef
   refine k1 B G H δ σ _ _ sG rs e1 fun v G1 H1 g1 r1=>?_
   simp only [Rep] at r1
   subst r1
   refine ⟨rfl,k2 B G1 H1 δ σ _ _ g1.s (rs.grow g1) e2 fun u G2 H2 g2 r2=>?_⟩
   simp only [Rep] at r2
   subst r2
   exact ⟨_,_,rfl,rfl,ok.1,ok.2,fun p hp=>k _ _ _ ((g1.trans g2).trans (Grow.laid g2.s _ hp)) (rep_tup (g2.s.free hp) (repL_strs _))⟩
  ·cases ef
 ·cases ef
def rSlS : V->Option Int->Option Int->Hp->VK->Prop:=fun x lo hi H Q=>∃ z,x = .str z /\ z.length <= sizeLine /\ Q (.str (Txt.slice z lo hi)) H
theorem part_of {v : Value} {o : Option Int} (h : IsPart v o) : ∃ l : Option (Int × Tok),v = partValue l /\ l.map (·.1) = o:=by
 cases h with
 | none=>exact ⟨none,rfl,rfl⟩
 | int i t=>exact ⟨some (i,t),rfl,rfl⟩
theorem sl_str : SlR X rSlS:=by
 intro pins s σ H x v vl vu lo hi sl Q I rx hs pl pu h
 obtain ⟨z,rfl,hz,q⟩:=h
 obtain ⟨t,rfl⟩:=rx
 obtain ⟨l,rfl,rfl⟩:=part_of pl
 obtain ⟨u,rfl,rfl⟩:=part_of pu
 refine ⟨"str",_,F.slot_str_getitem.lookup,typeIs_str _ _ _,wpAny_getItem_str_slice (l:=l) (u:=u) (st:=none) hs rfl ?_⟩
 refine post_val_or_str ⟨Nat.le_trans (Txt.slice_le z _ _) hz,fun t' k=>?_⟩
 exact ⟨.str _,H,I.tok k,⟨t',rfl⟩,q⟩
@[simp] def fSlS (f : FE) (l h : En->Option (Option Int)) : FE:=fun δ=>(f δ).bind fun x=>(l δ).bind fun lo=>(h δ).bind fun hi=>match x with
 | .str z=>if z.length <= sizeLine then some (.str (Txt.slice z lo hi)) else none
 | _=>none
theorem pd_slS {e : Expr} {f : FE} {lo hi : Option Expr} {fl fh : En->Option (Option Int)} {pos p2 : Pos} (he : PB X e f) (hl : POD X lo fl) (hh : POD X hi fh) : PD X (.Subscript e (.Slice lo hi none p2) pos) (fSlS f fl fh):=by
 obtain ⟨t,pt,k1⟩:=he
 obtain ⟨tl,pl,kl⟩:=hl
 obtain ⟨th,ph,kh⟩:=hh
 refine ⟨_,pe_slice sl_str pt pl ph,fun B G H δ σ d Q sG rs e k=>?_⟩
 unfold fSlS at e
 obtain ⟨x,e1,e⟩:=obE e
 obtain ⟨l,e2,e⟩:=obE e
 obtain ⟨h,e3,e⟩:=obE e
 refine k1 B G H δ σ x _ sG rs e1 fun v G1 H1 g1 r1=>kl B G1 H1 δ σ l _ g1.s (rs.grow g1) e2 fun G2 H2 g2=>kh B G2 H2 δ σ h _ g2.s (rs.grow (g1.trans g2)) e3 fun G3 H3 g3=>?_
 split at e
 ·split at e
  ·rename_i hz
   cases e
   have r1:=r1.flat rfl
   simp only [Rep] at r1
   exact ⟨_,r1,hz,k _ G3 H3 ((g1.trans g2).trans g3) (by simp [Rep])⟩
  ·cases e
 ·cases e
theorem call_intT : CallR X (.type "int") (fun xs H Q=>∃ x n,xs = [.str x] /\ PySem.intText? x = some n /\ x.length <= 640 /\ Q (.int n) H):=by
 intro pins s σ H xs us Q I r h
 obtain ⟨x,n,rfl,e,hl,q⟩:=h
 obtain ⟨u,rfl,t,rfl⟩:=vals1 r
 exact PySem.W.KIN.call_text e hl ⟨.int n,H,I.tok _,⟨_,rfl⟩,q⟩
theorem call_strI : CallR X (.type "str") (fun xs H Q=>(∃ a,xs = [.int a] /\ a.natAbs.log2 < 1920 /\ Q (.str (toString a)) H) \/ ∃ x,xs = [.str x] /\ Q (.str x) H):=by
 intro pins s σ H xs us Q I r h
 rcases h with ⟨a,rfl,ha,q⟩ | ⟨x,rfl,q⟩
 ·obtain ⟨u,rfl,t,rfl⟩:=vals1 r
  exact P.str_of_int ha ⟨.str _,H,I.tok _,⟨_,rfl⟩,q⟩
 ·obtain ⟨u,rfl,t,rfl⟩:=vals1 r
  exact P.str_of_str ⟨.str _,H,I,⟨_,rfl⟩,q⟩
def intT : List D->Option D | [.str x]=>if x.length <= 640 then (PySem.intText? x).map .int else none | _=>none
theorem cd_intT : CallD X (.type "int") intT:=by
 refine ⟨_,call_intT,fun G H ds vs d Q sG r e k=>?_⟩
 unfold intT at e
 split at e
 ·split at e
  ·rename_i hl
   obtain ⟨n,e1,rfl⟩:=omE e
   obtain ⟨v,rfl,r1⟩:=repLB_one r
   have r1:=r1.flat rfl
   simp only [Rep] at r1
   subst r1
   exact ⟨_,_,rfl,e1,hl,k _ G H (Grow.refl sG) (by simp [Rep])⟩
  ·cases e
 ·cases e
def strT : List D->Option D | [.int a]=>if a.natAbs.log2 < 1920 then some (.str (toString a)) else none | [.str x]=>some (.str x) | _=>none
theorem cd_strT : CallD X (.type "str") strT:=by
 refine ⟨_,call_strI,fun G H ds vs d Q sG r e k=>?_⟩
 unfold strT at e
 split at e
 ·split at e
  ·rename_i hl
   cases e
   obtain ⟨v,rfl,r1⟩:=repLB_one r
   have r1:=r1.flat rfl
   simp only [Rep] at r1
   subst r1
   exact .inl ⟨_,rfl,hl,k _ G H (Grow.refl sG) (by simp [Rep])⟩
  ·cases e
 ·cases e
  obtain ⟨v,rfl,r1⟩:=repLB_one r
  have r1:=r1.flat rfl
  simp only [Rep] at r1
  subst r1
  exact .inr ⟨_,rfl,k _ G H (Grow.refl sG) (by simp [Rep])⟩
 ·cases e
instance (x : Str) (n : Int) : Decidable (MulOk x n):=inferInstanceAs (Decidable (_ /\ _ /\ _))
theorem op_mulS : OpR X (binaryOp .Mult) (fun x y H Q=>∃ z n,x = .str z /\ y = .int n /\ MulOk z n /\ Q (.str (Txt.mul z n)) H):=by
 intro pins s σ H x y v u Q I rx ry h
 obtain ⟨z,n,rfl,rfl,ok,q⟩:=h
 obtain ⟨t,rfl⟩:=rx
 obtain ⟨t',rfl⟩:=ry
 exact SB.mul ok fun t2 k=>⟨.str _,H,I.tok k,⟨t2,rfl⟩,q⟩
def mulS : D->D->Option D | .str z,.int n=>if MulOk z n then some (.str (Txt.mul z n)) else none | _,_=>none
theorem od_mulS : OpD X (binaryOp .Mult) mulS:=by
 refine ⟨_,op_mulS,fun G H x y v u d Q sG rx ry e k=>?_⟩
 unfold mulS at e
 split at e
 ·split at e
  ·rename_i hc
   cases e
   have rx:=rx.flat rfl
   have ry:=ry.flat rfl
   simp only [Rep] at rx ry
   exact ⟨_,_,rx,ry,hc,k _ G H (Grow.refl sG) (by simp [Rep])⟩
  ·cases e
 ·cases e
end
section
variable {X : Cx} {x : Str} {p px pT pos : Pos}
def IsObB (K : PySem.W.Frag) (T : String) (tbl : List (Str × Bool)) : Prop:=∀ c b,tbl.lookup c = some b->∃ C,PySem.W.nsIn K mainGlobals c = some (some (.ref C)) /\ PySem.W.kitOne K (.ref C) (.type T) = some b
theorem isObB_mk {K : PySem.W.Frag} {T : String} {c : Str} {C : Addr} {b : Bool} (a2 : PySem.W.nsIn K mainGlobals c = some (some (.ref C))) (k : PySem.W.kitOne K (.ref C) (.type T) = some b) : IsObB K T [(c,b)]:=
 fun c' b' h=>by obtain ⟨rfl,rfl⟩:=lk1 h; exact ⟨C,a2,k⟩
theorem pd_isObB (i : Nat) (T' : String) {T : Str} {tbl : List (Str × Bool)} (hT : IsObB X.K T' tbl) (hm : X.mg "isinstance" = none) (hmT : X.mg T = none) (hbT : bootBuiltins T = some (.type T'):=by decide +kernel) (hi : X.N[i]? = some x:=by rfl) (hv : Vis X.env.scope x:=by first | exact Or.inl rfl | exact Or.inr (Or.inl rfl) | exact Or.inr (Or.inr rfl)) (hd : (x == ("__debug__" : Str)) = false:=by decide)
  (hcd : (x == ("__classdict__" : Str)) = false:=by decide) (hg : Gl X "isinstance":=by rfl) (hgT : Gl X T:=by rfl) (hn : T ≠ "__name__":=by decide) (hdT : (T == ("__debug__" : Str)) = false:=by decide)
  (hs : starEach [.Name x px,.Name T pT] X.env = (false,eval (.Name x px) X.env)::starEach [.Name T pT] X.env:=by rfl) (hs2 : starEach [.Name T pT] X.env = (false,eval (.Name T pT) X.env)::starEach [] X.env:=by rfl) (hpl : (backTo pos (starEach [.Name T pT] X.env)).any (·.1) = false:=by rfl)
  (hb : bootBuiltins "isinstance" = some (.builtin "isinstance"):=by decide +kernel) : PD X (.Call (.Name "isinstance" p) [.Name x px,.Name T pT] [] pos) (fIsOb i tbl):=by
 have hc : CallR X (.builtin "isinstance") (fun xs H Q=>∃ a C b,xs = [.ref a,.ty T'] /\ ExH H a C /\ ExcC X.K C /\ PySem.W.kitOne X.K (.ref C) (.type T') = some b /\ Q (.bl b) H):=by
  intro pins s σ H xs us Q I r h
  obtain ⟨a,C,b,rfl,hH,eC,hk,q⟩:=h
  obtain ⟨u,w',rfl,r1,r2⟩:=vals2 r
  cases (show u = Value.ref a from r1)
  cases (show w' = Value.type T' from r2)
  exact PySem.W.kia_one (kitx_exc eC) I.kIn (hH.i I) hk (by intro z; cases z) fun tk=>⟨.bl b,H,I.tok tk,rfl,q⟩
 refine ⟨_,pe_callB hc hg hm hb (pa_cons (pe_var hi hv hd hcd) (pa_cons (pe_bltn (v:=.ty T') hgT hmT hbT rfl hn hdT) pa_nil hs2) hs) (by decide) (by decide) hs hpl,fun B G H δ σ d Q sG rs ef k=>?_⟩
 unfold fIsOb at ef
 split at ef
 ·rename_i c ed
  obtain ⟨b,e1,rfl⟩:=omE ef
  obtain ⟨v,h1,a,C,od,rfl,hC,eC,hG,hP⟩:=rs.at_ i _ ed
  obtain ⟨C',hC',hk⟩:=hT c.n b e1
  rw [hC] at hC'
  cases hC'
  exact ⟨_,h1,a,C,b,rfl,ExH.of sG hG hP,eC,hk,k _ G H (Grow.refl sG) (by simp [Rep])⟩
 ·cases ef
end
end L2
namespace K42
open PySem PySem.Spec PyProof.Rows L2
def top (i : Nat) : Stmt:=PySem.Challenge.pw_reason_k42_texts_refused.main.body.getD i (.Pass ⟨0,0,0,0⟩)
def g_LONGEST : D:=(.int 8)
def g_MOST_FIGURES : D:=(.int 30)
def g_MOST_LITERALS : D:=(.int 6)
def g_MOST_PLACES : D:=(.int 4)
def g_MOST_VARIABLES : D:=(.int 4)
def g_MOST_YES : D:=(.int 4)
def g_WORDS : D:=(.tup [(.str "not"),(.str "if"),(.str "under"),(.str "unlike"),(.str "sum"),(.str "least"),(.str "count")])
structure Txt (K : PySem.W.Frag) (mg : Str->Option Value) : Prop where
 d_is_whole : DefAt K mg "is_whole" (top 13)
 d_is_small : DefAt K mg "is_small" (top 14)
 d_is_big : DefAt K mg "is_big" (top 15)
 d_is_figure : DefAt K mg "is_figure" (top 16)
 d_is_short_text : DefAt K mg "is_short_text" (top 17)
 d_is_name : DefAt K mg "is_name" (top 18)
 d_is_constant : DefAt K mg "is_constant" (top 19)
 d_is_variable : DefAt K mg "is_variable" (top 20)
 d_is_term : DefAt K mg "is_term" (top 21)
 d_is_fact : DefAt K mg "is_fact" (top 22)
 d_are_terms : DefAt K mg "are_terms" (top 27)
 d_is_literal : DefAt K mg "is_literal" (top 28)
 d_is_grouping : DefAt K mg "is_grouping" (top 29)
 d_are_head_terms : DefAt K mg "are_head_terms" (top 30)
 d_is_body : DefAt K mg "is_body" (top 31)
 d_has_predicate : DefAt K mg "has_predicate" (top 34)
 d_literal_variables : DefAt K mg "literal_variables" (top 35)
 d_body_variables : DefAt K mg "body_variables" (top 37)
 d_is_group : DefAt K mg "is_group" (top 33)
 d_head_variables : DefAt K mg "head_variables" (top 36)
 d_rule_variables : DefAt K mg "rule_variables" (top 38)
 d_is_rule : DefAt K mg "is_rule" (top 32)
 d_is_numeral : DefAt K mg "is_numeral" (top 41)
 d_read_terms : DefAt K mg "read_terms" (top 42)
 d_read_fact : DefAt K mg "read_fact" (top 43)
 d_read_literal : DefAt K mg "read_literal" (top 44)
 d_read_head_terms : DefAt K mg "read_head_terms" (top 45)
 d_read_rule : DefAt K mg "read_rule" (top 46)
 d__law_cell : DefAt K mg "_law_cell" (top 48)
 d__law_stream : DefAt K mg "_law_stream" (top 49)
 d__law_names : DefAt K mg "_law_names" (top 50)
 d__law_refused : DefAt K mg "_law_refused" (top 51)
 d__law_odd_facts : DefAt K mg "_law_odd_facts" (top 52)
 d__law_odd_rules : DefAt K mg "_law_odd_rules" (top 53)
 d__law_spoiled : DefAt K mg "_law_spoiled" (top 54)
 d_law : DefAt K mg "law" (top 55)
 m_ValueError : mg "ValueError" = none
 m_all : mg "all" = none
 m_bool : mg "bool" = none
 m_int : mg "int" = none
 m_isinstance : mg "isinstance" = none
 m_len : mg "len" = none
 m_max : mg "max" = none
 m_min : mg "min" = none
 m_range : mg "range" = none
 m_set : mg "set" = none
 m_sorted : mg "sorted" = none
 m_str : mg "str" = none
 m_tuple : mg "tuple" = none
 t_bool : IsTyOk K "bool"
 t_int : IsTyOk K "int"
 t_str : IsTyOk K "str"
 t_tuple : IsTyOk K "tuple"
 c_LONGEST : GlobAt K mg "LONGEST" g_LONGEST
 c_MOST_FIGURES : GlobAt K mg "MOST_FIGURES" g_MOST_FIGURES
 c_MOST_LITERALS : GlobAt K mg "MOST_LITERALS" g_MOST_LITERALS
 c_MOST_PLACES : GlobAt K mg "MOST_PLACES" g_MOST_PLACES
 c_MOST_VARIABLES : GlobAt K mg "MOST_VARIABLES" g_MOST_VARIABLES
 c_MOST_YES : GlobAt K mg "MOST_YES" g_MOST_YES
 c_WORDS : GlobAt K mg "WORDS" g_WORDS
 x_0 : RaiseC K "NoText"
 x_1 : ∀ c ∈ (["NoText"] : List Str),CatchC K "ReasonError" c
 x_2 : IsObT K ["Missing","NoFact","NoName","NoRule","Unlike","Unsafe"] [("NoText",false)]
 x_3 : IsOb1 K "NoText" [("NoText",true)]
 x_4 : IsObB K "ValueError" [("NoText",true)]
noncomputable section
def fb_is_whole : FS:=(sSeq (sRet (fSh (fAnd (fIs "int" (fVarB 0)) (fNot (fIs "bool" (fVarB 0))))))
  sNil)
def M_is_whole : List D->Option Rs:=runF ["thing"] 1 fb_is_whole
def fb_is_small : FS:=(sSeq (sRet (fSh (f3 (leD) (leD) (fC (.str "a")) (fVarB 0) (fC (.str "z")))))
  sNil)
def M_is_small : List D->Option Rs:=runF ["sign"] 1 fb_is_small
def fb_is_big : FS:=(sSeq (sRet (fSh (f3 (leD) (leD) (fC (.str "A")) (fVarB 0) (fC (.str "Z")))))
  sNil)
def M_is_big : List D->Option Rs:=runF ["sign"] 1 fb_is_big
def fb_is_figure : FS:=(sSeq (sRet (fSh (f3 (leD) (leD) (fC (.str "0")) (fVarB 0) (fC (.str "9")))))
  sNil)
def M_is_figure : List D->Option Rs:=runF ["sign"] 1 fb_is_figure
def fb_is_short_text : FS:=(sSeq (sRet (fSh (fAnd (fIs "str" (fVarB 0)) (f3 (leD) (leD) (fC (.int 1)) (fCallB lenD (fCons (fVarB 0) fNil)) (fC g_LONGEST)))))
  sNil)
def M_is_short_text : List D->Option Rs:=runF ["thing"] 1 fb_is_short_text
def fb_is_name : FS:=(sSeq (sIf (bOr (bNot (fB (fPub (fCallR M_is_short_text (fCons (fVar 0) fNil))))) (fB (f2 (inE false) (fVarB 0) (fC g_WORDS)))) (sSeq (sRet (fSh (fC (.bl false))))
  sNil) sNil)
  (sSeq (sRet (fSh (fCallB allD (fCons (fPub (fComp 1 [] 0 (oSeq (fVar 0)) bYes (fPub (fCallR M_is_small (fCons (fVar 0) fNil))))) fNil))))
  sNil))
def M_is_name : List D->Option Rs:=runF ["thing"] 1 fb_is_name
def fb_is_constant : FS:=(sSeq (sRet (fSh (fOr (fPub (fCallR M_is_whole (fCons (fVar 0) fNil))) (fPub (fCallR M_is_name (fCons (fVar 0) fNil))))))
  sNil)
def M_is_constant : List D->Option Rs:=runF ["thing"] 1 fb_is_constant
def fb_is_variable : FS:=(sSeq (sIf (bOr (bNot (fB (fPub (fCallR M_is_short_text (fCons (fVar 0) fNil))))) (bNot (fB (fPub (fCallR M_is_big (fCons (f2 ixA (fVarB 0) (fC (.int 0))) fNil)))))) (sSeq (sRet (fSh (fC (.bl false))))
  sNil) sNil)
  (sSeq (sRet (fSh (fCallB allD (fCons (fPub (fComp 1 [] 0 (oSeq (fVar 0)) bYes (fOr (fPub (fCallR M_is_small (fCons (fVar 0) fNil))) (fOr (fPub (fCallR M_is_big (fCons (fVar 0) fNil))) (fPub (fCallR M_is_figure (fCons (fVar 0) fNil))))))) fNil))))
  sNil))
def M_is_variable : List D->Option Rs:=runF ["thing"] 1 fb_is_variable
def fb_is_term : FS:=(sSeq (sRet (fSh (fOr (fPub (fCallR M_is_constant (fCons (fVar 0) fNil))) (fPub (fCallR M_is_variable (fCons (fVar 0) fNil))))))
  sNil)
def M_is_term : List D->Option Rs:=runF ["thing"] 1 fb_is_term
def fb_is_fact : FS:=(sSeq (sIf (bOr (bNot (fB (fIs "tuple" (fVarB 0)))) (fB (f2 (neE) (fCallB lenD (fCons (fVarB 0) fNil)) (fC (.int 2))))) (sSeq (sRet (fSh (fC (.bl false))))
  sNil) sNil)
  (sSeq (sSet 1 (f2 ixA (fVarB 0) (fC (.int 1))))
  (sSeq (sIf (bOr (bNot (fB (fPub (fCallR M_is_name (fCons (f2 ixA (fVarB 0) (fC (.int 0))) fNil))))) (bOr (bNot (fB (fIs "tuple" (fVarB 1)))) (fB (f2 (gtD) (fCallB lenD (fCons (fVarB 1) fNil)) (fC g_MOST_PLACES))))) (sSeq (sRet (fSh (fC (.bl false))))
  sNil) sNil)
  (sSeq (sRet (fSh (fCallB allD (fCons (fPub (fComp 1 [] 0 (oSeq (fVar 1)) bYes (fPub (fCallR M_is_constant (fCons (fVar 0) fNil))))) fNil))))
  sNil))))
def M_is_fact : List D->Option Rs:=runF ["thing","places"] 1 fb_is_fact
def fb_are_terms : FS:=(sSeq (sIf (bOr (bNot (fB (fIs "tuple" (fVarB 0)))) (fB (f2 (gtD) (fCallB lenD (fCons (fVarB 0) fNil)) (fC g_MOST_PLACES)))) (sSeq (sRet (fSh (fC (.bl false))))
  sNil) sNil)
  (sSeq (sRet (fSh (fCallB allD (fCons (fPub (fComp 1 [] 0 (oSeq (fVar 0)) bYes (fPub (fCallR M_is_term (fCons (fVar 0) fNil))))) fNil))))
  sNil))
def M_are_terms : List D->Option Rs:=runF ["thing"] 1 fb_are_terms
def fb_is_literal : FS:=(sSeq (sIf (bOr (bNot (fB (fIs "tuple" (fVarB 0)))) (bOr (fB (f2 (neE) (fCallB lenD (fCons (fVarB 0) fNil)) (fC (.int 3)))) (bNot (fB (fIs "str" (f2 ixA (fVarB 0) (fC (.int 0)))))))) (sSeq (sRet (fSh (fC (.bl false))))
  sNil) sNil)
  (sSeq (sIf (fB (f2 (inE false) (f2 ixA (fVarB 0) (fC (.int 0))) (fTup (fCons (fC (.str "yes")) (fCons (fC (.str "not")) fNil))))) (sSeq (sRet (fSh (fAnd (fPub (fCallR M_is_name (fCons (f2 ixA (fVarB 0) (fC (.int 1))) fNil))) (fPub (fCallR M_are_terms (fCons (f2 ixA (fVarB 0) (fC (.int 2))) fNil))))))
  sNil) sNil)
  (sSeq (sRet (fSh (fAnd (f2 (inE false) (f2 ixA (fVarB 0) (fC (.int 0))) (fTup (fCons (fC (.str "under")) (fCons (fC (.str "unlike")) fNil)))) (fAnd (fPub (fCallR M_is_term (fCons (f2 ixA (fVarB 0) (fC (.int 1))) fNil))) (fPub (fCallR M_is_term (fCons (f2 ixA (fVarB 0) (fC (.int 2))) fNil)))))))
  sNil)))
def M_is_literal : List D->Option Rs:=runF ["thing"] 1 fb_is_literal
def fb_is_grouping : FS:=(sSeq (sIf (bOr (bNot (fB (fIs "tuple" (fVarB 0)))) (bOr (fB (f2 (inE true) (fCallB lenD (fCons (fVarB 0) fNil)) (fTup (fCons (fC (.int 1)) (fCons (fC (.int 2)) fNil))))) (bNot (fB (fIs "str" (f2 ixA (fVarB 0) (fC (.int 0)))))))) (sSeq (sRet (fSh (fC (.bl false))))
  sNil) sNil)
  (sSeq (sIf (fB (f2 (eqO false) (fCallB lenD (fCons (fVarB 0) fNil)) (fC (.int 1)))) (sSeq (sRet (fSh (f2 (eqO false) (f2 ixA (fVarB 0) (fC (.int 0))) (fC (.str "count")))))
  sNil) sNil)
  (sSeq (sRet (fSh (fAnd (f2 (inE false) (f2 ixA (fVarB 0) (fC (.int 0))) (fTup (fCons (fC (.str "sum")) (fCons (fC (.str "least")) fNil)))) (fPub (fCallR M_is_variable (fCons (f2 ixA (fVarB 0) (fC (.int 1))) fNil))))))
  sNil)))
def M_is_grouping : List D->Option Rs:=runF ["thing"] 1 fb_is_grouping
def fb_are_head_terms : FS:=(sSeq (sIf (bOr (bNot (fB (fIs "tuple" (fVarB 0)))) (fB (f2 (gtD) (fCallB lenD (fCons (fVarB 0) fNil)) (fC g_MOST_PLACES)))) (sSeq (sRet (fSh (fC (.bl false))))
  sNil) sNil)
  (sSeq (sIf (bAnd (fB (f2 (gtD) (fCallB lenD (fCons (fVarB 0) fNil)) (fC (.int 0)))) (fB (fPub (fCallR M_is_grouping (fCons (f2 ixA (fVarB 0) (f1 negD (fC (.int 1)))) fNil))))) (sSeq (sRet (fCallR M_are_terms (fCons (fPub (fSlA (fVarB 0) (fun _=>some none) (oInt (f1 negD (fC (.int 1)))))) fNil)))
  sNil) sNil)
  (sSeq (sRet (fCallR M_are_terms (fCons (fVar 0) fNil)))
  sNil)))
def M_are_head_terms : List D->Option Rs:=runF ["thing"] 1 fb_are_head_terms
def fb_is_body : FS:=(sSeq (sIf (bOr (bNot (fB (fIs "tuple" (fVarB 0)))) (bNot (fB (f3 (leD) (leD) (fC (.int 1)) (fCallB lenD (fCons (fVarB 0) fNil)) (fC g_MOST_LITERALS))))) (sSeq (sRet (fSh (fC (.bl false))))
  sNil) sNil)
  (sSeq (sIf (bNot (fB (fCallB allD (fCons (fPub (fComp 1 [] 0 (oSeq (fVar 0)) bYes (fPub (fCallR M_is_literal (fCons (fVar 0) fNil))))) fNil)))) (sSeq (sRet (fSh (fC (.bl false))))
  sNil) sNil)
  (sSeq (sRet (fSh (f2 (leD) (fCallB lenD (fCons (fPub (fComp 1 [] 0 (oSeq (fVar 0)) (fB (f2 (eqO false) (f2 ixA (fVarB 0) (fC (.int 0))) (fC (.str "yes")))) (fVar 0))) fNil)) (fC g_MOST_YES))))
  sNil)))
def M_is_body : List D->Option Rs:=runF ["thing"] 1 fb_is_body
def fb_has_predicate : FS:=(sSeq (sRet (fSh (f2 (inE false) (f2 ixA (fVarB 0) (fC (.int 0))) (fTup (fCons (fC (.str "yes")) (fCons (fC (.str "not")) fNil))))))
  sNil)
def M_has_predicate : List D->Option Rs:=runF ["literal"] 1 fb_has_predicate
def fb_literal_variables : FS:=(sSeq (sSet 1 (fIf (fB (fPub (fCallR M_has_predicate (fCons (fVar 0) fNil)))) (f2 ixA (fVarB 0) (fC (.int 2))) (fPub (fSlA (fVarB 0) (oInt (fC (.int 1))) (fun _=>some none)))))
  (sSeq (sRet (fComp 1 [] 0 (oSeq (fVar 1)) (fB (fPub (fCallR M_is_variable (fCons (fVar 0) fNil)))) (fVar 0)))
  sNil))
def M_literal_variables : List D->Option Rs:=runF ["literal","terms"] 1 fb_literal_variables
def fb_body_variables : FS:=(sSeq (sSetR 1 (fLstR fNil))
  (sSeq (sFor 2 (oSeq (fVar 0)) (sSeq (sExt 1 (fCallR M_literal_variables (fCons (fVar 2) fNil)))
  sNil))
  (sSeq (sRet (fSortSet (fVarB 1)))
  sNil)))
def M_body_variables : List D->Option Rs:=runF ["body","found","literal"] 1 fb_body_variables
def fb_is_group : FS:=(sSeq (sRet (fSh (fAnd (f2 (gtD) (fCallB lenD (fCons (f2 ixA (fVarB 0) (fC (.int 1))) fNil)) (fC (.int 0))) (fIs "tuple" (f2 ixA (f2 ixA (fVarB 0) (fC (.int 1))) (f1 negD (fC (.int 1))))))))
  sNil)
def M_is_group : List D->Option Rs:=runF ["rule"] 1 fb_is_group
def fb_head_variables : FS:=(sSeq (sSet 1 (fIf (fB (fPub (fCallR M_is_group (fCons (fVar 0) fNil)))) (f2 addD (fPub (fSlA (f2 ixA (fVarB 0) (fC (.int 1))) (fun _=>some none) (oInt (f1 negD (fC (.int 1)))))) (fPub (fSlA (f2 ixA (f2 ixA (fVarB 0) (fC (.int 1))) (f1 negD (fC (.int 1)))) (oInt (fC (.int 1))) (fun _=>some none)))) (f2 ixA (fVarB 0) (fC (.int 1)))))
  (sSeq (sRet (fComp 1 [] 0 (oSeq (fVar 1)) (fB (fPub (fCallR M_is_variable (fCons (fVar 0) fNil)))) (fVar 0)))
  sNil))
def M_head_variables : List D->Option Rs:=runF ["rule","terms"] 1 fb_head_variables
def fb_rule_variables : FS:=(sSeq (sRet (fSortSet (f2 addD (fPub (fCallR M_head_variables (fCons (fVar 0) fNil))) (fPub (fCallR M_body_variables (fCons (f2 ixA (fVarB 0) (fC (.int 2))) fNil))))))
  sNil)
def M_rule_variables : List D->Option Rs:=runF ["rule"] 1 fb_rule_variables
def fb_is_rule : FS:=(sSeq (sIf (bOr (bNot (fB (fIs "tuple" (fVarB 0)))) (fB (f2 (neE) (fCallB lenD (fCons (fVarB 0) fNil)) (fC (.int 3))))) (sSeq (sRet (fSh (fC (.bl false))))
  sNil) sNil)
  (sSeq (sIf (bOr (bNot (fB (fPub (fCallR M_is_name (fCons (f2 ixA (fVarB 0) (fC (.int 0))) fNil))))) (bOr (bNot (fB (fPub (fCallR M_are_head_terms (fCons (f2 ixA (fVarB 0) (fC (.int 1))) fNil))))) (bNot (fB (fPub (fCallR M_is_body (fCons (f2 ixA (fVarB 0) (fC (.int 2))) fNil))))))) (sSeq (sRet (fSh (fC (.bl false))))
  sNil) sNil)
  (sSeq (sRet (fSh (f2 (leD) (fCallB lenD (fCons (fPub (fCallR M_rule_variables (fCons (fVar 0) fNil))) fNil)) (fC g_MOST_VARIABLES))))
  sNil)))
def M_is_rule : List D->Option Rs:=runF ["thing"] 1 fb_is_rule
def fb_is_numeral : FS:=(sSeq (sSet 1 (fIf (fB (f2 startsD (fVar 0) (fC (.str "-")))) (fSlS (fVarB 0) (oInt (fC (.int 1))) (fun _=>some none)) (fVar 0)))
  (sSeq (sIf (bOr (bNot (fB (f3 (leD) (leD) (fC (.int 1)) (fCallB lenD (fCons (fVarB 1) fNil)) (fC g_MOST_FIGURES)))) (bNot (fB (fCallB allD (fCons (fPub (fComp 1 [] 0 (oSeq (fVar 1)) bYes (fPub (fCallR M_is_figure (fCons (fVar 0) fNil))))) fNil))))) (sSeq (sRet (fSh (fC (.bl false))))
  sNil) sNil)
  (sSeq (sRet (fSh (fOr (f2 (neE) (f2 ixA (fVarB 1) (fC (.int 0))) (fC (.str "0"))) (f2 (eqO false) (fVarB 0) (fC (.str "0"))))))
  sNil)))
def M_is_numeral : List D->Option Rs:=runF ["word","figures"] 1 fb_is_numeral
def fb_read_terms : FS:=(sSeq (sRet (fSh (fCallB tupD (fCons (fPub (fComp 1 [] 0 (oSeq (fVar 0)) bYes (fIf (fB (fPub (fCallR M_is_numeral (fCons (fVar 0) fNil)))) (fCallB intT (fCons (fVarB 0) fNil)) (fVar 0)))) fNil))))
  sNil)
def M_read_terms : List D->Option Rs:=runF ["words"] 1 fb_read_terms
def fb_read_fact : FS:=(sSeq (sSet 1 (fPub (fSplit (fVar 0) (fC (.str " ")))))
  (sSeq (sSet 2 (fTup (fCons (f2 ixA (fVarB 1) (fC (.int 0))) (fCons (fPub (fCallR M_read_terms (fCons (fPub (fSlA (fVarB 1) (oInt (fC (.int 1))) (fun _=>some none))) fNil))) fNil))))
  (sSeq (sIf (bNot (fB (fPub (fCallR M_is_fact (fCons (fVar 2) fNil))))) (sSeq (sRaise "NoText" (fCons (fC (.str "this text is no fact")) fNil))
  sNil) sNil)
  (sSeq (sRetV 2)
  sNil))))
def M_read_fact : List D->Option Rs:=runF ["text","words","fact"] 1 fb_read_fact
def Mx_read_fact : List Sl->Option Ex:=runE ["text","words","fact"] 1 fb_read_fact
def fb_read_literal : FS:=(sSeq (sSet 1 (fPub (fSplit (fVar 0) (fC (.str " ")))))
  (sSeq (sIf (fB (f2 (inE false) (f2 ixA (fVarB 1) (fC (.int 0))) (fTup (fCons (fC (.str "under")) (fCons (fC (.str "unlike")) fNil))))) (sSeq (sRet (fSh (f2 addD (fTup (fCons (f2 ixA (fVarB 1) (fC (.int 0))) fNil)) (fPub (fCallR M_read_terms (fCons (fPub (fSlA (fVarB 1) (oInt (fC (.int 1))) (fun _=>some none))) fNil))))))
  sNil) sNil)
  (sSeq (sIf (fB (f2 (neE) (f2 ixA (fVarB 1) (fC (.int 0))) (fC (.str "not")))) (sSeq (sRet (fSh (fTup (fCons (fC (.str "yes")) (fCons (f2 ixA (fVarB 1) (fC (.int 0))) (fCons (fPub (fCallR M_read_terms (fCons (fPub (fSlA (fVarB 1) (oInt (fC (.int 1))) (fun _=>some none))) fNil))) fNil))))))
  sNil) sNil)
  (sSeq (sRet (fSh (fTup (fCons (fC (.str "not")) (fCons (f2 joinD (fC (.str "")) (fPub (fSlA (fVarB 1) (oInt (fC (.int 1))) (oInt (fC (.int 2)))))) (fCons (fPub (fCallR M_read_terms (fCons (fPub (fSlA (fVarB 1) (oInt (fC (.int 2))) (fun _=>some none))) fNil))) fNil))))))
  sNil))))
def M_read_literal : List D->Option Rs:=runF ["text","words"] 1 fb_read_literal
def fb_read_head_terms : FS:=(sSeq (sIf (fB (f2 (eqO false) (fPub (fSlA (fVarB 0) (oInt (f1 negD (fC (.int 1)))) (fun _=>some none))) (fPub (fLstR (fCons (fC (.str "count")) fNil))))) (sSeq (sRet (fSh (f2 addD (fPub (fCallR M_read_terms (fCons (fPub (fSlA (fVarB 0) (fun _=>some none) (oInt (f1 negD (fC (.int 1)))))) fNil))) (fTup (fCons (fTup (fCons (fC (.str "count")) fNil)) fNil)))))
  sNil) sNil)
  (sSeq (sIf (fB (f2 (inE false) (fPub (fSlA (fVarB 0) (oInt (f1 negD (fC (.int 2)))) (oInt (f1 negD (fC (.int 1)))))) (fTup (fCons (fPub (fLstR (fCons (fC (.str "sum")) fNil))) (fCons (fPub (fLstR (fCons (fC (.str "least")) fNil))) fNil))))) (sSeq (sRet (fSh (f2 addD (fPub (fCallR M_read_terms (fCons (fPub (fSlA (fVarB 0) (fun _=>some none) (oInt (f1 negD (fC (.int 2)))))) fNil))) (fTup (fCons (fCallB tupD (fCons (fPub (fSlA (fVarB 0) (oInt (f1 negD (fC (.int 2)))) (fun _=>some none))) fNil)) fNil)))))
  sNil) sNil)
  (sSeq (sRet (fCallR M_read_terms (fCons (fVar 0) fNil)))
  sNil)))
def M_read_head_terms : List D->Option Rs:=runF ["words"] 1 fb_read_head_terms
def fb_read_rule : FS:=(sSeq (sSet 1 (f2 partD (fVar 0) (fC (.str " if "))))
  (sSeq (sSet 2 (fPub (fSplit (f2 ixA (fVarB 1) (fC (.int 0))) (fC (.str " ")))))
  (sSeq (sSet 3 (fPub (fComp 1 [] 0 (oSeq (fPub (fSplit (f2 ixA (fVarB 1) (fC (.int 2))) (fC (.str ", "))))) bYes (fPub (fCallR M_read_literal (fCons (fVar 0) fNil))))))
  (sSeq (sSet 4 (fTup (fCons (f2 ixA (fVarB 2) (fC (.int 0))) (fCons (fPub (fCallR M_read_head_terms (fCons (fPub (fSlA (fVarB 2) (oInt (fC (.int 1))) (fun _=>some none))) fNil))) (fCons (fCallB tupD (fCons (fVarB 3) fNil)) fNil)))))
  (sSeq (sIf (bNot (fB (fPub (fCallR M_is_rule (fCons (fVar 4) fNil))))) (sSeq (sRaise "NoText" (fCons (fC (.str "this text is no rule")) fNil))
  sNil) sNil)
  (sSeq (sRetV 4)
  sNil))))))
def M_read_rule : List D->Option Rs:=runF ["text","parts","head","body","rule"] 1 fb_read_rule
def Mx_read_rule : List Sl->Option Ex:=runE ["text","parts","head","body","rule"] 1 fb_read_rule
def fb__law_cell : FS:=(sSeq (sIf (fB (f2 (ltE) (fVarB 1) (fCallB lenD (fCons (fVarB 0) fNil)))) (sSeq (sRet (fSh (f2 ixA (fVarB 0) (fVarB 1))))
  sNil) sNil)
  (sSeq (sSet 2 (f2 addD (f2 mulD (fVarB 1) (fC (.int 7919))) (fC (.int 5))))
  (sSeq (sIf (fB (f2 (gtD) (fCallB lenD (fCons (fVarB 0) fNil)) (fC (.int 0)))) (sSeq (sSet 2 (f2 modD (f2 addD (f2 mulD (f2 ixA (fVarB 0) (f2 modD (f2 mulD (fVarB 1) (fC (.int 7))) (fCallB lenD (fCons (fVarB 0) fNil)))) (fC (.int 48271))) (f2 mulD (fVarB 1) (fC (.int 7919)))) (fC (.int 2147483647))))
  sNil) sNil)
  (sSeq (sRet (fSh (f2 modD (f2 mulD (fVarB 2) (fVarB 2)) (fC (.int 2147483629)))))
  sNil))))
def M__law_cell : List D->Option Rs:=runF ["_law_script","_law_k","_law_number"] 2 fb__law_cell
def fb__law_stream : FS:=(sSeq (sSetR 2 (fLstR fNil))
  (sSeq (sSet 3 (f2 fdivD (fVarB 0) (fC (.int 2))))
  (sSeq (sFor 4 (oRng (fVar 1)) (sSeq (sIf (fB (f2 (eqO false) (f2 modD (fVarB 0) (fC (.int 2))) (fC (.int 1)))) (sSeq (sApp 2 (f2 modD (fVarB 3) (f2 powD (fC (.int 10)) (fC (.int 4)))))
  (sSeq (sSet 3 (f2 fdivD (fVarB 3) (f2 powD (fC (.int 10)) (fC (.int 4)))))
  sNil)) (sSeq (sSet 3 (f2 modD (f2 addD (f2 mulD (fVarB 3) (fC (.int 48271))) (fC (.int 12345))) (fC (.int 2147483647))))
  (sSeq (sApp 2 (f2 modD (f2 mulD (fVarB 3) (fC (.int 69621))) (fC (.int 2147483629))))
  sNil)))
  sNil))
  (sSeq (sRetV 2)
  sNil))))
def M__law_stream : List D->Option Rs:=runF ["_law_cell_here","_law_many","_law_xs","_law_number","_law_k"] 2 fb__law_stream
def fb__law_names : FS:=(sSeq (sSet 2 (fC (.str "abcdefghijklmnopqrstuvwxyz")))
  (sSeq (sSet 3 (f2 addD (fC (.int 1)) (f2 modD (fVarB 0) (fC (.int 8)))))
  (sSeq (sSet 4 (f2 modD (f2 fdivD (fVarB 0) (fC (.int 8))) (fVarB 3)))
  (sSeq (sSet 5 (fPub (fComp 1 [] 0 (oSeq (fPub (fCallR M__law_stream (fCons (f2 fdivD (fVarB 0) (fC (.int 64))) (fCons (fC (.int 8)) fNil))))) bYes (f2 modD (fVarB 0) (fC (.int 26))))))
  (sSeq (sSetR 6 (fLstR fNil))
  (sSeq (sFor 7 (oRng (fVar 1)) (sSeq (sSet 8 (f2 joinD (fC (.str "")) (fPub (fComp 1 [2,4,5,7] 0 (oRng (fVar 3)) bYes (f2 ixA (fVarB 1) (f2 modD (f2 addD (f2 ixA (fVarB 3) (fVarB 0)) (f2 mulD (f2 mulD (fC (.int 3)) (fVarB 4)) (fCallB intD (fCons (f2 (eqO false) (fVarB 0) (fVarB 2)) fNil)))) (fC (.int 26))))))))
  (sSeq (sIf (fB (f2 (inE false) (fVarB 8) (fTup (fCons (fC (.str "not")) (fCons (fC (.str "if")) (fCons (fC (.str "under")) (fCons (fC (.str "unlike")) (fCons (fC (.str "sum")) (fCons (fC (.str "least")) (fCons (fC (.str "count")) fNil)))))))))) (sSeq (sSet 8 (f2 addD (fC (.str "x")) (fVarB 8)))
  sNil) sNil)
  (sSeq (sApp 6 (fVar 8))
  sNil))))
  (sSeq (sRetV 6)
  sNil)))))))
def M__law_names : List D->Option Rs:=runF ["_law_cell_here","_law_many","_law_some","_law_size","_law_at","_law_base","_law_names_here","_law_k","_law_name"] 2 fb__law_names
def fb__law_refused : FS:=(sSeq (sSet 2 (fC (.bl false)))
  (sSeq (sTry ["NoText"] 3 (sSeq (sIf (fB (f2 (eqO false) (fVarB 1) (fC (.int 0)))) (sSeq (sOr (sDrop (xD (fPub (fCallR M_read_fact (fCons (fVar 0) fNil))))) (sDropE Mx_read_fact [.val (fVar 0)]))
  sNil) (sSeq (sOr (sDrop (xD (fPub (fCallR M_read_rule (fCons (fVar 0) fNil))))) (sDropE Mx_read_rule [.val (fVar 0)]))
  sNil))
  sNil) (sSeq (sSet 2 (fAnd (fIsOb 3 [("NoText",true)]) (fIsOb 3 [("NoText",true)])))
  (sSeq (sSet 2 (fAnd (fVar 2) (fNot (fIsOb 3 [("NoText",false)]))))
  sNil)))
  (sSeq (sRetV 2)
  sNil)))
def M__law_refused : List D->Option Rs:=runF ["_law_text","_law_way","_law_good","e"] 2 fb__law_refused
def fb__law_odd_facts : FS:=(sSeq (sSet 3 (fPub (fLstR (fCons (fC (.str "")) (fCons (fC (.str " ")) (fCons (f2 addD (fVarB 0) (fC (.str " "))) (fCons (f2 addD (fC (.str " ")) (fVarB 0)) (fCons (f2 addD (fC (.str "P ")) (fVarB 1)) (fCons (f2 addD (fVarB 0) (fC (.str " A"))) (fCons (f2 addD (f2 addD (fVarB 0) (fC (.str " 0"))) (fVarB 2)) (fCons (f2 addD (fVarB 0) (fC (.str " -0"))) (fCons (f2 addD (fVarB 0) (fC (.str " 00"))) (fCons (fC (.str "if")) fNil)))))))))))))
  (sSeq (sSet 3 (f2 addD (fVarB 3) (fPub (fLstR (fCons (f2 addD (f2 addD (fVarB 0) (fC (.str " -0"))) (fVarB 2)) (fCons (f2 addD (f2 addD (fVarB 0) (fC (.str " +"))) (fVarB 2)) (fCons (f2 addD (fVarB 0) (fC (.str " 1.0"))) (fCons (f2 addD (f2 addD (f2 addD (fVarB 0) (fC (.str " "))) (fVarB 1)) (fC (.str " b c d e"))) (fCons (f2 addD (fC (.str "not ")) (fVarB 1)) fNil)))))))))
  (sSeq (sSet 3 (f2 addD (fVarB 3) (fPub (fLstR (fCons (f2 addD (fC (.str "sum ")) (fVarB 1)) (fCons (f2 addD (fVarB 0) (fC (.str " not"))) (fCons (f2 addD (fVarB 0) (fC (.str " if"))) (fCons (f2 addD (fVarB 0) (fC (.str " abcdefghi"))) (fCons (f2 addD (fC (.str "abcdefghi ")) (fVarB 1)) (fCons (f2 addD (f2 addD (fVarB 2) (fC (.str " "))) (fVarB 1)) fNil))))))))))
  (sSeq (sSet 3 (f2 addD (fVarB 3) (fPub (fLstR (fCons (f2 addD (fC (.str "-")) (fVarB 2)) (fCons (f2 addD (f2 addD (fVarB 0) (fC (.str " 1"))) (f2 mulS (fC (.str "0")) (fC (.int 30)))) (fCons (f2 addD (fVarB 0) (fC (.str " --1"))) (fCons (f2 addD (fVarB 0) (fC (.str " 1-"))) (fCons (f2 addD (fVarB 0) (fC (.str " -"))) (fCons (f2 addD (f2 addD (fVarB 0) (fC (.str ","))) (fVarB 1)) fNil))))))))))
  (sSeq (sRet (fSh (f2 addD (fVarB 3) (fPub (fLstR (fCons (f2 addD (f2 addD (f2 addD (fVarB 0) (fC (.str " "))) (fVarB 1)) (fC (.str ", b"))) (fCons (f2 addD (fVarB 0) (fC (.str " 1a"))) (fCons (f2 addD (fVarB 0) (fC (.str " a1"))) (fCons (f2 addD (f2 addD (fVarB 0) (fC (.str " if "))) (fVarB 1)) (fCons (f2 addD (fVarB 0) (fC (.str " Xy"))) fNil))))))))))
  sNil)))))
def M__law_odd_facts : List D->Option Rs:=runF ["_law_p","_law_a","_law_number","_law_odd"] 3 fb__law_odd_facts
def fb__law_odd_rules : FS:=(sSeq (sSet 3 (fPub (fLstR (fCons (fC (.str "")) (fCons (fC (.str " if ")) (fCons (fVar 0) (fCons (f2 addD (fVarB 0) (fC (.str " if"))) (fCons (f2 addD (fVarB 0) (fC (.str " if "))) (fCons (fC (.str "if q")) (fCons (fC (.str " if q")) (fCons (f2 addD (fVarB 0) (fC (.str " X if"))) (fCons (f2 addD (fVarB 0) (fC (.str " X if q X,r X"))) (fCons (f2 addD (fVarB 0) (fC (.str " X"))) fNil)))))))))))))
  (sSeq (sSet 3 (f2 addD (fVarB 3) (fPub (fLstR (fCons (f2 addD (fVarB 0) (fC (.str " X if q X , r X"))) (fCons (f2 addD (fVarB 0) (fC (.str " X if q X,  r X"))) (fCons (f2 addD (fVarB 0) (fC (.str " X if q X, "))) (fCons (f2 addD (fVarB 0) (fC (.str " X if under X"))) fNil))))))))
  (sSeq (sSet 3 (f2 addD (fVarB 3) (fPub (fLstR (fCons (f2 addD (fVarB 0) (fC (.str " X if under X Y Z"))) (fCons (f2 addD (fVarB 0) (fC (.str " X if unlike X"))) (fCons (f2 addD (fVarB 0) (fC (.str " X if not"))) (fCons (f2 addD (fVarB 0) (fC (.str " X if not 1 X"))) fNil))))))))
  (sSeq (sSet 3 (f2 addD (fVarB 3) (fPub (fLstR (fCons (fC (.str "P X if q X")) (fCons (f2 addD (fVarB 0) (fC (.str " X if Q X"))) (fCons (f2 addD (fVarB 0) (fC (.str " sum if q X"))) (fCons (f2 addD (fVarB 0) (fC (.str " sum 3 if q X"))) (fCons (fC (.str "count if q")) (fCons (fC (.str "sum X if q X")) fNil))))))))))
  (sSeq (sSet 3 (f2 addD (fVarB 3) (fPub (fLstR (fCons (f2 addD (f2 addD (f2 addD (fVarB 0) (fC (.str " least "))) (fVarB 1)) (fC (.str " if q X"))) (fCons (f2 addD (fVarB 0) (fC (.str " count X if q X"))) (fCons (f2 addD (fVarB 0) (fC (.str " X iff q X"))) (fCons (f2 addD (fVarB 0) (fC (.str " X IF q X"))) fNil))))))))
  (sSeq (sSet 3 (f2 addD (fVarB 3) (fPub (fLstR (fCons (f2 addD (fVarB 0) (fC (.str " X Y Z W V if q X Y Z W"))) (fCons (f2 addD (fVarB 0) (fC (.str " if q X, q X, q X, q X, q X"))) (fCons (f2 addD (fVarB 0) (fC (.str " if q V W X Y, r Z"))) fNil)))))))
  (sSeq (sSet 3 (f2 addD (fVarB 3) (fPub (fLstR (fCons (f2 addD (fVarB 0) (fC (.str " if not q, not q, not q, not q, not q, not q, not q"))) (fCons (f2 addD (fVarB 0) (fC (.str " if q X X X X X"))) fNil))))))
  (sSeq (sSet 3 (f2 addD (fVarB 3) (fPub (fLstR (fCons (f2 addD (fVarB 0) (fC (.str " X not q X"))) (fCons (f2 addD (fVarB 0) (fC (.str " X if if q X"))) (fCons (f2 addD (fVarB 0) (fC (.str " X if q X if r X"))) (fCons (f2 addD (f2 addD (fVarB 0) (fC (.str " X if q 0"))) (fVarB 2)) fNil))))))))
  (sSeq (sSet 3 (f2 addD (fVarB 3) (fPub (fLstR (fCons (f2 addD (fVarB 0) (fC (.str " X if q -0"))) (fCons (f2 addD (f2 addD (fVarB 0) (fC (.str " X if q 1"))) (f2 mulS (fC (.str "0")) (fC (.int 30)))) (fCons (f2 addD (fVarB 0) (fC (.str " X if q X; r X"))) (fCons (f2 addD (fVarB 0) (fC (.str " Xabcdefgh if q X"))) fNil))))))))
  (sSeq (sSet 3 (f2 addD (fVarB 3) (fPub (fLstR (fCons (f2 addD (fVarB 0) (fC (.str " X if q abcdefghi"))) (fCons (f2 addD (fVarB 0) (fC (.str " X if q sum X"))) (fCons (f2 addD (fVarB 0) (fC (.str " sum X Y if q X"))) (fCons (f2 addD (fVarB 2) (fC (.str " X if q X"))) fNil))))))))
  (sSeq (sRet (fSh (f2 addD (fVarB 3) (fPub (fLstR (fCons (f2 addD (f2 addD (f2 addD (fVarB 0) (fC (.str " X if "))) (fVarB 2)) (fC (.str " X"))) (fCons (f2 addD (fVarB 0) (fC (.str " X count sum X if q X"))) (fCons (f2 addD (fVarB 0) (fC (.str " X if q X under X 3"))) fNil))))))))
  sNil)))))))))))
def M__law_odd_rules : List D->Option Rs:=runF ["_law_p","_law_a","_law_number","_law_odd"] 3 fb__law_odd_rules
def fb__law_spoiled : FS:=(sSeq (sSet 3 (f2 modD (f2 fdivD (fVarB 1) (fC (.int 3))) (f2 addD (fCallB lenD (fCons (fVarB 0) fNil)) (fC (.int 1)))))
  (sSeq (sIf (fB (f2 (eqO false) (f2 modD (fVarB 1) (fC (.int 3))) (fC (.int 0)))) (sSeq (sRet (fSh (f2 addD (f2 addD (fSlS (fVarB 0) (fun _=>some none) (oInt (fVar 3))) (f2 ixA (fC (.str "!\"#$&'()*+./:;<=>?\x40[]^_`{|}~")) (f2 modD (fVarB 2) (fC (.int 28))))) (fSlS (fVarB 0) (oInt (fVar 3)) (fun _=>some none)))))
  sNil) sNil)
  (sSeq (sIf (fB (f2 (eqO false) (f2 modD (fVarB 1) (fC (.int 3))) (fC (.int 1)))) (sSeq (sSet 4 (fPub (fSplit (fVar 0) (fC (.str " ")))))
  (sSeq (sSet 5 (f2 addD (fC (.int 1)) (f2 modD (f2 fdivD (fVarB 1) (fC (.int 3))) (f2 subD (fCallB lenD (fCons (fVarB 4) fNil)) (fC (.int 1))))))
  (sSeq (sRet (fSh (f2 addD (f2 addD (f2 joinD (fC (.str " ")) (fPub (fSlA (fVarB 4) (fun _=>some none) (oInt (fVar 5))))) (fC (.str "  "))) (f2 joinD (fC (.str " ")) (fPub (fSlA (fVarB 4) (oInt (fVar 5)) (fun _=>some none)))))))
  sNil))) sNil)
  (sSeq (sRet (fSh (f2 ixA (fPub (fLstR (fCons (f2 addD (fVarB 0) (fC (.str " "))) (fCons (f2 addD (fC (.str " ")) (fVarB 0)) fNil)))) (f2 modD (fVarB 2) (fC (.int 2))))))
  sNil))))
def M__law_spoiled : List D->Option Rs:=runF ["_law_text","_law_x","_law_y","_law_at","_law_pieces","_law_many"] 3 fb__law_spoiled
def fb_law : FS:=(sSeq (sSet 1 (fPub (fCallR M__law_names (fCons (fPub (fCallR M__law_cell (fCons (fVar 0) (fCons (fC (.int 0)) fNil)))) (fCons (fC (.int 3)) fNil)))))
  (sSeq (sSet 2 (fCallB strT (fCons (f2 addD (fC (.int 1)) (f2 modD (fPub (fCallR M__law_cell (fCons (fVar 0) (fCons (fC (.int 1)) fNil)))) (f2 powD (fC (.int 10)) (fC (.int 20))))) fNil)))
  (sSeq (sSet 3 (f2 addD (f2 addD (f2 addD (f2 addD (f2 ixA (fVarB 1) (fC (.int 0))) (fC (.str " "))) (f2 ixA (fVarB 1) (fC (.int 1)))) (fC (.str " -"))) (fVarB 2)))
  (sSeq (sSet 4 (f2 addD (f2 addD (f2 addD (f2 ixA (fVarB 1) (fC (.int 0))) (fC (.str " X sum Y if "))) (f2 ixA (fVarB 1) (fC (.int 1)))) (fC (.str " X Y 0, not "))))
  (sSeq (sSet 4 (f2 addD (f2 addD (f2 addD (fVarB 4) (f2 ixA (fVarB 1) (fC (.int 2)))) (fC (.str " Y, under X "))) (fVarB 2)))
  (sSeq (sFor 5 (oRng2 (fC (.int 2)) (fCallB maxD (fCons (fC (.int 12)) (fCons (fCallB minD (fCons (fC (.int 32)) (fCons (fCallB lenD (fCons (fVarB 0) fNil)) fNil))) fNil)))) (sSeq (sSet 6 (fPub (fCallR M__law_stream (fCons (fPub (fCallR M__law_cell (fCons (fVar 0) (fCons (fVar 5) fNil)))) (fCons (fC (.int 4)) fNil)))))
  (sSeq (sSet 7 (f2 modD (f2 ixA (fVarB 6) (fC (.int 0))) (fC (.int 2))))
  (sSeq (sSet 8 (fPub (fCallR M__law_spoiled (fCons (f2 ixA (fPub (fLstR (fCons (fVar 3) (fCons (fVar 4) fNil)))) (fVarB 7)) (fCons (f2 ixA (fVarB 6) (fC (.int 1))) (fCons (f2 ixA (fVarB 6) (fC (.int 2))) fNil))))))
  (sSeq (sIf (fB (f2 (gtD) (f2 modD (f2 ixA (fVarB 6) (fC (.int 3))) (fC (.int 3))) (fC (.int 0)))) (sSeq (sSet 9 (fPub (fCallR M__law_odd_facts (fCons (f2 ixA (fVarB 1) (fC (.int 0))) (fCons (f2 ixA (fVarB 1) (fC (.int 1))) (fCons (fVar 2) fNil))))))
  (sSeq (sIf (fB (f2 (eqO false) (fVarB 7) (fC (.int 1)))) (sSeq (sSet 9 (fPub (fCallR M__law_odd_rules (fCons (f2 ixA (fVarB 1) (fC (.int 0))) (fCons (f2 ixA (fVarB 1) (fC (.int 1))) (fCons (fVar 2) fNil))))))
  sNil) sNil)
  (sSeq (sSet 8 (f2 ixA (fVarB 9) (f2 modD (f2 ixA (fVarB 6) (fC (.int 1))) (fCallB lenD (fCons (fVarB 9) fNil)))))
  sNil))) sNil)
  (sSeq (sIf (bNot (fB (fPub (fCallR M__law_refused (fCons (fVar 8) (fCons (fVar 7) fNil)))))) (sSeq (sRet (fSh (fC (.bl false))))
  sNil) sNil)
  (sSeq (sIf (fB (f2 (neE) (fPub (fCallR M_read_fact (fCons (fVar 3) fNil))) (fTup (fCons (f2 ixA (fVarB 1) (fC (.int 0))) (fCons (fTup (fCons (f2 ixA (fVarB 1) (fC (.int 1))) (fCons (f2 subD (fC (.int 0)) (fCallB intT (fCons (fVarB 2) fNil))) fNil))) fNil))))) (sSeq (sRet (fSh (fC (.bl false))))
  sNil) sNil)
  sNil)))))))
  (sSeq (sSet 10 (fTup (fCons (fTup (fCons (fC (.str "yes")) (fCons (f2 ixA (fVarB 1) (fC (.int 1))) (fCons (fTup (fCons (fC (.str "X")) (fCons (fC (.str "Y")) (fCons (fC (.int 0)) fNil)))) fNil)))) (fCons (fTup (fCons (fC (.str "not")) (fCons (f2 ixA (fVarB 1) (fC (.int 2))) (fCons (fTup (fCons (fC (.str "Y")) fNil)) fNil)))) (fCons (fTup (fCons (fC (.str "under")) (fCons (fC (.str "X")) (fCons (fCallB intT (fCons (fVarB 2) fNil)) fNil)))) fNil)))))
  (sSeq (sRet (fSh (f2 (eqO false) (fPub (fCallR M_read_rule (fCons (fVar 4) fNil))) (fTup (fCons (f2 ixA (fVarB 1) (fC (.int 0))) (fCons (fTup (fCons (fC (.str "X")) (fCons (fTup (fCons (fC (.str "sum")) (fCons (fC (.str "Y")) fNil))) fNil))) (fCons (fVar 10) fNil)))))))
  sNil))))))))
def M_law : List D->Option Rs:=runF ["_law_script","_law_names_here","_law_number","_law_fact","_law_rule","_law_k","_law_xs","_law_way","_law_text","_law_odd","_law_literals"] 1 fb_law
end
theorem hu_of2 {k : Nat} {A : Around} (r : Room k A) : A.units + 20 < cLine:=by have:=r.un; omega
variable {P : Program} {w : World} {K : PySem.W.Frag} {mg : Str->Option Value} {base : Heap}
theorem sc_is_whole : FnScope ["thing"] ["thing"] (defScope (top 13)):=⟨rfl,rfl,rfl,by decide +kernel,rfl,by decide +kernel,by decide +kernel⟩
theorem mk_is_whole (T : Txt K mg)  : DefOk P w K mg base 1 "is_whole" ["thing"] M_is_whole:=
 def_run T.d_is_whole sc_is_whole (fun _ _ _ _ _ _ us hl=>match us,hl with | [_],_=>rfl) fun f cdv A outer s H E hr=>by
  have nd : (["thing"] : List Str).Nodup:=sc_is_whole.nd
  have hu:=hu_of2 hr
  exact (psd_cons (psd_ret (PD.pr (pd_and (pd_is "int" T.t_int T.m_isinstance T.m_int boot_int (pb_var 0)) (pd_one (pd_not (pd_is "bool" T.t_bool T.m_isinstance T.m_bool boot_bool (pb_var 0)))))))
  psd_nil)
theorem sc_is_small : FnScope ["sign"] ["sign"] (defScope (top 14)):=⟨rfl,rfl,rfl,by decide +kernel,rfl,by decide +kernel,by decide +kernel⟩
theorem mk_is_small (T : Txt K mg)  : DefOk P w K mg base 1 "is_small" ["sign"] M_is_small:=
 def_run T.d_is_small sc_is_small (fun _ _ _ _ _ _ us hl=>match us,hl with | [_],_=>rfl) fun f cdv A outer s H E hr=>by
  have nd : (["sign"] : List Str).Nodup:=sc_is_small.nd
  have hu:=hu_of2 hr
  exact (psd_cons (psd_ret (PD.pr (pd_chain od_leD od_leD (PD.pb pd_str) (pb_var 0) (PD.pb pd_str))))
  psd_nil)
theorem sc_is_big : FnScope ["sign"] ["sign"] (defScope (top 15)):=⟨rfl,rfl,rfl,by decide +kernel,rfl,by decide +kernel,by decide +kernel⟩
theorem mk_is_big (T : Txt K mg)  : DefOk P w K mg base 1 "is_big" ["sign"] M_is_big:=
 def_run T.d_is_big sc_is_big (fun _ _ _ _ _ _ us hl=>match us,hl with | [_],_=>rfl) fun f cdv A outer s H E hr=>by
  have nd : (["sign"] : List Str).Nodup:=sc_is_big.nd
  have hu:=hu_of2 hr
  exact (psd_cons (psd_ret (PD.pr (pd_chain od_leD od_leD (PD.pb pd_str) (pb_var 0) (PD.pb pd_str))))
  psd_nil)
theorem sc_is_figure : FnScope ["sign"] ["sign"] (defScope (top 16)):=⟨rfl,rfl,rfl,by decide +kernel,rfl,by decide +kernel,by decide +kernel⟩
theorem mk_is_figure (T : Txt K mg)  : DefOk P w K mg base 1 "is_figure" ["sign"] M_is_figure:=
 def_run T.d_is_figure sc_is_figure (fun _ _ _ _ _ _ us hl=>match us,hl with | [_],_=>rfl) fun f cdv A outer s H E hr=>by
  have nd : (["sign"] : List Str).Nodup:=sc_is_figure.nd
  have hu:=hu_of2 hr
  exact (psd_cons (psd_ret (PD.pr (pd_chain od_leD od_leD (PD.pb pd_str) (pb_var 0) (PD.pb pd_str))))
  psd_nil)
theorem sc_is_short_text : FnScope ["thing"] ["thing"] (defScope (top 17)):=⟨rfl,rfl,rfl,by decide +kernel,rfl,by decide +kernel,by decide +kernel⟩
theorem mk_is_short_text (T : Txt K mg)  : DefOk P w K mg base 1 "is_short_text" ["thing"] M_is_short_text:=
 def_run T.d_is_short_text sc_is_short_text (fun _ _ _ _ _ _ us hl=>match us,hl with | [_],_=>rfl) fun f cdv A outer s H E hr=>by
  have nd : (["thing"] : List Str).Nodup:=sc_is_short_text.nd
  have hu:=hu_of2 hr
  exact (psd_cons (psd_ret (PD.pr (pd_and (pd_is "str" T.t_str T.m_isinstance T.m_str boot_str (pb_var 0)) (pd_one (pd_chain od_leD od_leD (PD.pb pd_int) (PD.pb (pd_callB cd_len T.m_len boot_len (pab_cons (pb_var 0) pab_nil))) (PD.pb (T.c_LONGEST.pd)))))))
  psd_nil)
theorem sc_is_name : FnScope ["thing"] ["thing"] (defScope (top 18)):=⟨rfl,rfl,rfl,by decide +kernel,rfl,by decide +kernel,by decide +kernel⟩
theorem mk_is_name (T : Txt K mg) (ok_is_short_text : DefOk P w K mg base 1 "is_short_text" ["thing"] M_is_short_text) (ok_is_small : DefOk P w K mg base 1 "is_small" ["sign"] M_is_small) : DefOk P w K mg base 2 "is_name" ["thing"] M_is_name:=
 def_run T.d_is_name sc_is_name (fun _ _ _ _ _ _ us hl=>match us,hl with | [_],_=>rfl) fun f cdv A outer s H E hr=>by
  have nd : (["thing"] : List Str).Nodup:=sc_is_name.nd
  have hu:=hu_of2 hr
  exact (psd_cons (psd_if (PDW.pdt (pdw_or (pdt_not (pdt_val (PR.pd (pr_call ok_is_short_text (hr.mono (by decide)) (pad_cons (pd_var 0) pad_nil))))) (pdw_or1 (pdt_cmp (od_inE hu) (pb_var 0) (PD.pb (T.c_WORDS.pd)))))) (psd_cons (psd_ret (PD.pr pd_bl))
  psd_nil) psd_nil)
  (psd_cons (psd_ret (PD.pr (pd_callB (cd_all rfl) T.m_all boot_all (pab_cons (PD.pb (PR.pd (pr_comp' (N:=["sign"]) (js:=[]) (i:=0) rfl (compOk0 rfl (by decide +kernel) (by decide +kernel) rfl) (pid_seq (pd_var 0)) (by decide) (by decide) rfl rfl (by decide) (fun _ _ _ _=>pifd_nil) (fun _ _ _ _=>(PR.pd (pr_call ok_is_small (hr.mono (by decide)) (pad_cons (pd_var 0) pad_nil))))))) pab_nil))))
  psd_nil))
theorem sc_is_constant : FnScope ["thing"] ["thing"] (defScope (top 19)):=⟨rfl,rfl,rfl,by decide +kernel,rfl,by decide +kernel,by decide +kernel⟩
theorem mk_is_constant (T : Txt K mg) (ok_is_name : DefOk P w K mg base 2 "is_name" ["thing"] M_is_name) (ok_is_whole : DefOk P w K mg base 1 "is_whole" ["thing"] M_is_whole) : DefOk P w K mg base 3 "is_constant" ["thing"] M_is_constant:=
 def_run T.d_is_constant sc_is_constant (fun _ _ _ _ _ _ us hl=>match us,hl with | [_],_=>rfl) fun f cdv A outer s H E hr=>by
  have nd : (["thing"] : List Str).Nodup:=sc_is_constant.nd
  have hu:=hu_of2 hr
  exact (psd_cons (psd_ret (PD.pr (pd_or (PR.pd (pr_call ok_is_whole (hr.mono (by decide)) (pad_cons (pd_var 0) pad_nil))) (pd_one (PR.pd (pr_call ok_is_name (hr.mono (by decide)) (pad_cons (pd_var 0) pad_nil)))))))
  psd_nil)
theorem sc_is_variable : FnScope ["thing"] ["thing"] (defScope (top 20)):=⟨rfl,rfl,rfl,by decide +kernel,rfl,by decide +kernel,by decide +kernel⟩
theorem mk_is_variable (T : Txt K mg) (ok_is_big : DefOk P w K mg base 1 "is_big" ["sign"] M_is_big) (ok_is_figure : DefOk P w K mg base 1 "is_figure" ["sign"] M_is_figure) (ok_is_short_text : DefOk P w K mg base 1 "is_short_text" ["thing"] M_is_short_text) (ok_is_small : DefOk P w K mg base 1 "is_small" ["sign"] M_is_small) : DefOk P w K mg base 2 "is_variable" ["thing"] M_is_variable:=
 def_run T.d_is_variable sc_is_variable (fun _ _ _ _ _ _ us hl=>match us,hl with | [_],_=>rfl) fun f cdv A outer s H E hr=>by
  have nd : (["thing"] : List Str).Nodup:=sc_is_variable.nd
  have hu:=hu_of2 hr
  exact (psd_cons (psd_if (PDW.pdt (pdw_or (pdt_not (pdt_val (PR.pd (pr_call ok_is_short_text (hr.mono (by decide)) (pad_cons (pd_var 0) pad_nil))))) (pdw_or1 (pdt_not (pdt_val (PR.pd (pr_call ok_is_big (hr.mono (by decide)) (pad_cons (pd_ix (nlL (naL (by decide) _) hu) (pb_var 0) (PD.pb pd_int)) pad_nil)))))))) (psd_cons (psd_ret (PD.pr pd_bl))
  psd_nil) psd_nil)
  (psd_cons (psd_ret (PD.pr (pd_callB (cd_all rfl) T.m_all boot_all (pab_cons (PD.pb (PR.pd (pr_comp' (N:=["sign"]) (js:=[]) (i:=0) rfl (compOk0 rfl (by decide +kernel) (by decide +kernel) rfl) (pid_seq (pd_var 0)) (by decide) (by decide) rfl rfl (by decide) (fun _ _ _ _=>pifd_nil) (fun _ _ _ _=>(pd_or (PR.pd (pr_call ok_is_small (hr.mono (by decide)) (pad_cons (pd_var 0) pad_nil))) (pd_or (PR.pd (pr_call ok_is_big (hr.mono (by decide)) (pad_cons (pd_var 0) pad_nil))) (pd_one (PR.pd (pr_call ok_is_figure (hr.mono (by decide)) (pad_cons (pd_var 0) pad_nil)))))))))) pab_nil))))
  psd_nil))
theorem sc_is_term : FnScope ["thing"] ["thing"] (defScope (top 21)):=⟨rfl,rfl,rfl,by decide +kernel,rfl,by decide +kernel,by decide +kernel⟩
theorem mk_is_term (T : Txt K mg) (ok_is_constant : DefOk P w K mg base 3 "is_constant" ["thing"] M_is_constant) (ok_is_variable : DefOk P w K mg base 2 "is_variable" ["thing"] M_is_variable) : DefOk P w K mg base 4 "is_term" ["thing"] M_is_term:=
 def_run T.d_is_term sc_is_term (fun _ _ _ _ _ _ us hl=>match us,hl with | [_],_=>rfl) fun f cdv A outer s H E hr=>by
  have nd : (["thing"] : List Str).Nodup:=sc_is_term.nd
  have hu:=hu_of2 hr
  exact (psd_cons (psd_ret (PD.pr (pd_or (PR.pd (pr_call ok_is_constant (hr.mono (by decide)) (pad_cons (pd_var 0) pad_nil))) (pd_one (PR.pd (pr_call ok_is_variable (hr.mono (by decide)) (pad_cons (pd_var 0) pad_nil)))))))
  psd_nil)
theorem sc_is_fact : FnScope ["thing","places"] ["thing"] (defScope (top 22)):=⟨rfl,rfl,rfl,by decide +kernel,rfl,by decide +kernel,by decide +kernel⟩
theorem mk_is_fact (T : Txt K mg) (ok_is_constant : DefOk P w K mg base 3 "is_constant" ["thing"] M_is_constant) (ok_is_name : DefOk P w K mg base 2 "is_name" ["thing"] M_is_name) : DefOk P w K mg base 4 "is_fact" ["thing"] M_is_fact:=
 def_run T.d_is_fact sc_is_fact (fun _ _ _ _ _ _ us hl=>match us,hl with | [_],_=>rfl) fun f cdv A outer s H E hr=>by
  have nd : (["thing","places"] : List Str).Nodup:=sc_is_fact.nd
  have hu:=hu_of2 hr
  exact (psd_cons (psd_if (PDW.pdt (pdw_or (pdt_not (pdt_val (pd_is "tuple" T.t_tuple T.m_isinstance T.m_tuple boot_tuple (pb_var 0)))) (pdw_or1 (pdt_cmp (od_neE hu) (PD.pb (pd_callB cd_len T.m_len boot_len (pab_cons (pb_var 0) pab_nil))) (PD.pb pd_int))))) (psd_cons (psd_ret (PD.pr pd_bl))
  psd_nil) psd_nil)
  (psd_cons (psd_set 1 nd (pd_ix (nlL (naL (by decide) _) hu) (pb_var 0) (PD.pb pd_int)))
  (psd_cons (psd_if (PDW.pdt (pdw_or (pdt_not (pdt_val (PR.pd (pr_call ok_is_name (hr.mono (by decide)) (pad_cons (pd_ix (nlL (naL (by decide) _) hu) (pb_var 0) (PD.pb pd_int)) pad_nil))))) (pdw_or (pdt_not (pdt_val (pd_is "tuple" T.t_tuple T.m_isinstance T.m_tuple boot_tuple (pb_var 1)))) (pdw_or1 (pdt_cmp od_gt (PD.pb (pd_callB cd_len T.m_len boot_len (pab_cons (pb_var 1) pab_nil))) (PD.pb (T.c_MOST_PLACES.pd))))))) (psd_cons (psd_ret (PD.pr pd_bl))
  psd_nil) psd_nil)
  (psd_cons (psd_ret (PD.pr (pd_callB (cd_all rfl) T.m_all boot_all (pab_cons (PD.pb (PR.pd (pr_comp' (N:=["place"]) (js:=[]) (i:=0) rfl (compOk0 rfl (by decide +kernel) (by decide +kernel) rfl) (pid_seq (pd_var 1)) (by decide) (by decide) rfl rfl (by decide) (fun _ _ _ _=>pifd_nil) (fun _ _ _ _=>(PR.pd (pr_call ok_is_constant (hr.mono (by decide)) (pad_cons (pd_var 0) pad_nil))))))) pab_nil))))
  psd_nil))))
theorem sc_are_terms : FnScope ["thing"] ["thing"] (defScope (top 27)):=⟨rfl,rfl,rfl,by decide +kernel,rfl,by decide +kernel,by decide +kernel⟩
theorem mk_are_terms (T : Txt K mg) (ok_is_term : DefOk P w K mg base 4 "is_term" ["thing"] M_is_term) : DefOk P w K mg base 5 "are_terms" ["thing"] M_are_terms:=
 def_run T.d_are_terms sc_are_terms (fun _ _ _ _ _ _ us hl=>match us,hl with | [_],_=>rfl) fun f cdv A outer s H E hr=>by
  have nd : (["thing"] : List Str).Nodup:=sc_are_terms.nd
  have hu:=hu_of2 hr
  exact (psd_cons (psd_if (PDW.pdt (pdw_or (pdt_not (pdt_val (pd_is "tuple" T.t_tuple T.m_isinstance T.m_tuple boot_tuple (pb_var 0)))) (pdw_or1 (pdt_cmp od_gt (PD.pb (pd_callB cd_len T.m_len boot_len (pab_cons (pb_var 0) pab_nil))) (PD.pb (T.c_MOST_PLACES.pd)))))) (psd_cons (psd_ret (PD.pr pd_bl))
  psd_nil) psd_nil)
  (psd_cons (psd_ret (PD.pr (pd_callB (cd_all rfl) T.m_all boot_all (pab_cons (PD.pb (PR.pd (pr_comp' (N:=["term"]) (js:=[]) (i:=0) rfl (compOk0 rfl (by decide +kernel) (by decide +kernel) rfl) (pid_seq (pd_var 0)) (by decide) (by decide) rfl rfl (by decide) (fun _ _ _ _=>pifd_nil) (fun _ _ _ _=>(PR.pd (pr_call ok_is_term (hr.mono (by decide)) (pad_cons (pd_var 0) pad_nil))))))) pab_nil))))
  psd_nil))
theorem sc_is_literal : FnScope ["thing"] ["thing"] (defScope (top 28)):=⟨rfl,rfl,rfl,by decide +kernel,rfl,by decide +kernel,by decide +kernel⟩
theorem mk_is_literal (T : Txt K mg) (ok_are_terms : DefOk P w K mg base 5 "are_terms" ["thing"] M_are_terms) (ok_is_name : DefOk P w K mg base 2 "is_name" ["thing"] M_is_name) (ok_is_term : DefOk P w K mg base 4 "is_term" ["thing"] M_is_term) : DefOk P w K mg base 6 "is_literal" ["thing"] M_is_literal:=
 def_run T.d_is_literal sc_is_literal (fun _ _ _ _ _ _ us hl=>match us,hl with | [_],_=>rfl) fun f cdv A outer s H E hr=>by
  have nd : (["thing"] : List Str).Nodup:=sc_is_literal.nd
  have hu:=hu_of2 hr
  exact (psd_cons (psd_if (PDW.pdt (pdw_or (pdt_not (pdt_val (pd_is "tuple" T.t_tuple T.m_isinstance T.m_tuple boot_tuple (pb_var 0)))) (pdw_or (pdt_cmp (od_neE hu) (PD.pb (pd_callB cd_len T.m_len boot_len (pab_cons (pb_var 0) pab_nil))) (PD.pb pd_int)) (pdw_or1 (pdt_not (pdt_val (pd_is "str" T.t_str T.m_isinstance T.m_str boot_str (PD.pb (pd_ix (nlL (naL (by decide) _) hu) (pb_var 0) (PD.pb pd_int)))))))))) (psd_cons (psd_ret (PD.pr pd_bl))
  psd_nil) psd_nil)
  (psd_cons (psd_if (pdt_cmp (od_inE hu) (PD.pb (pd_ix (nlL (naL (by decide) _) hu) (pb_var 0) (PD.pb pd_int))) (PD.pb (pd_tup (pad_cons pd_str (pad_cons pd_str pad_nil))))) (psd_cons (psd_ret (PD.pr (pd_and (PR.pd (pr_call ok_is_name (hr.mono (by decide)) (pad_cons (pd_ix (nlL (naL (by decide) _) hu) (pb_var 0) (PD.pb pd_int)) pad_nil))) (pd_one (PR.pd (pr_call ok_are_terms (hr.mono (by decide)) (pad_cons (pd_ix (nlL (naL (by decide) _) hu) (pb_var 0) (PD.pb pd_int)) pad_nil)))))))
  psd_nil) psd_nil)
  (psd_cons (psd_ret (PD.pr (pd_and (pd_cmp (od_inE hu) (PD.pb (pd_ix (nlL (naL (by decide) _) hu) (pb_var 0) (PD.pb pd_int))) (PD.pb (pd_tup (pad_cons pd_str (pad_cons pd_str pad_nil))))) (pd_and (PR.pd (pr_call ok_is_term (hr.mono (by decide)) (pad_cons (pd_ix (nlL (naL (by decide) _) hu) (pb_var 0) (PD.pb pd_int)) pad_nil))) (pd_one (PR.pd (pr_call ok_is_term (hr.mono (by decide)) (pad_cons (pd_ix (nlL (naL (by decide) _) hu) (pb_var 0) (PD.pb pd_int)) pad_nil))))))))
  psd_nil)))
theorem sc_is_grouping : FnScope ["thing"] ["thing"] (defScope (top 29)):=⟨rfl,rfl,rfl,by decide +kernel,rfl,by decide +kernel,by decide +kernel⟩
theorem mk_is_grouping (T : Txt K mg) (ok_is_variable : DefOk P w K mg base 2 "is_variable" ["thing"] M_is_variable) : DefOk P w K mg base 3 "is_grouping" ["thing"] M_is_grouping:=
 def_run T.d_is_grouping sc_is_grouping (fun _ _ _ _ _ _ us hl=>match us,hl with | [_],_=>rfl) fun f cdv A outer s H E hr=>by
  have nd : (["thing"] : List Str).Nodup:=sc_is_grouping.nd
  have hu:=hu_of2 hr
  exact (psd_cons (psd_if (PDW.pdt (pdw_or (pdt_not (pdt_val (pd_is "tuple" T.t_tuple T.m_isinstance T.m_tuple boot_tuple (pb_var 0)))) (pdw_or (pdt_cmp (od_notinE hu) (PD.pb (pd_callB cd_len T.m_len boot_len (pab_cons (pb_var 0) pab_nil))) (PD.pb (pd_tup (pad_cons pd_int (pad_cons pd_int pad_nil))))) (pdw_or1 (pdt_not (pdt_val (pd_is "str" T.t_str T.m_isinstance T.m_str boot_str (PD.pb (pd_ix (nlL (naL (by decide) _) hu) (pb_var 0) (PD.pb pd_int)))))))))) (psd_cons (psd_ret (PD.pr pd_bl))
  psd_nil) psd_nil)
  (psd_cons (psd_if (pdt_cmp (od_eqO hu) (PD.pb (pd_callB cd_len T.m_len boot_len (pab_cons (pb_var 0) pab_nil))) (PD.pb pd_int)) (psd_cons (psd_ret (PD.pr (pd_cmp (od_eqO hu) (PD.pb (pd_ix (nlL (naL (by decide) _) hu) (pb_var 0) (PD.pb pd_int))) (PD.pb pd_str))))
  psd_nil) psd_nil)
  (psd_cons (psd_ret (PD.pr (pd_and (pd_cmp (od_inE hu) (PD.pb (pd_ix (nlL (naL (by decide) _) hu) (pb_var 0) (PD.pb pd_int))) (PD.pb (pd_tup (pad_cons pd_str (pad_cons pd_str pad_nil))))) (pd_one (PR.pd (pr_call ok_is_variable (hr.mono (by decide)) (pad_cons (pd_ix (nlL (naL (by decide) _) hu) (pb_var 0) (PD.pb pd_int)) pad_nil)))))))
  psd_nil)))
theorem sc_are_head_terms : FnScope ["thing"] ["thing"] (defScope (top 30)):=⟨rfl,rfl,rfl,by decide +kernel,rfl,by decide +kernel,by decide +kernel⟩
theorem mk_are_head_terms (T : Txt K mg) (ok_are_terms : DefOk P w K mg base 5 "are_terms" ["thing"] M_are_terms) (ok_is_grouping : DefOk P w K mg base 3 "is_grouping" ["thing"] M_is_grouping) : DefOk P w K mg base 6 "are_head_terms" ["thing"] M_are_head_terms:=
 def_run T.d_are_head_terms sc_are_head_terms (fun _ _ _ _ _ _ us hl=>match us,hl with | [_],_=>rfl) fun f cdv A outer s H E hr=>by
  have nd : (["thing"] : List Str).Nodup:=sc_are_head_terms.nd
  have hu:=hu_of2 hr
  exact (psd_cons (psd_if (PDW.pdt (pdw_or (pdt_not (pdt_val (pd_is "tuple" T.t_tuple T.m_isinstance T.m_tuple boot_tuple (pb_var 0)))) (pdw_or1 (pdt_cmp od_gt (PD.pb (pd_callB cd_len T.m_len boot_len (pab_cons (pb_var 0) pab_nil))) (PD.pb (T.c_MOST_PLACES.pd)))))) (psd_cons (psd_ret (PD.pr pd_bl))
  psd_nil) psd_nil)
  (psd_cons (psd_if (PDW.pdt (pdw_and (pdt_cmp od_gt (PD.pb (pd_callB cd_len T.m_len boot_len (pab_cons (pb_var 0) pab_nil))) (PD.pb pd_int)) (pdw_and1 (pdt_val (PR.pd (pr_call ok_is_grouping (hr.mono (by decide)) (pad_cons (pd_ix (nlL (naL (by decide) _) hu) (pb_var 0) (PD.pb (pd_neg pd_int))) pad_nil))))))) (psd_cons (psd_ret (pr_call ok_are_terms (hr.mono (by decide)) (pad_cons (PR.pd (pr_slA (pb_var 0) pod_none (pod_some (pd_neg pd_int)))) pad_nil)))
  psd_nil) psd_nil)
  (psd_cons (psd_ret (pr_call ok_are_terms (hr.mono (by decide)) (pad_cons (pd_var 0) pad_nil)))
  psd_nil)))
theorem sc_is_body : FnScope ["thing"] ["thing"] (defScope (top 31)):=⟨rfl,rfl,rfl,by decide +kernel,rfl,by decide +kernel,by decide +kernel⟩
theorem mk_is_body (T : Txt K mg) (ok_is_literal : DefOk P w K mg base 6 "is_literal" ["thing"] M_is_literal) : DefOk P w K mg base 7 "is_body" ["thing"] M_is_body:=
 def_run T.d_is_body sc_is_body (fun _ _ _ _ _ _ us hl=>match us,hl with | [_],_=>rfl) fun f cdv A outer s H E hr=>by
  have nd : (["thing"] : List Str).Nodup:=sc_is_body.nd
  have hu:=hu_of2 hr
  exact (psd_cons (psd_if (PDW.pdt (pdw_or (pdt_not (pdt_val (pd_is "tuple" T.t_tuple T.m_isinstance T.m_tuple boot_tuple (pb_var 0)))) (pdw_or1 (pdt_not (pdt_chain od_leD od_leD (PD.pb pd_int) (PD.pb (pd_callB cd_len T.m_len boot_len (pab_cons (pb_var 0) pab_nil))) (PD.pb (T.c_MOST_LITERALS.pd))))))) (psd_cons (psd_ret (PD.pr pd_bl))
  psd_nil) psd_nil)
  (psd_cons (psd_if (pdt_not (pdt_val (pd_callB (cd_all rfl) T.m_all boot_all (pab_cons (PD.pb (PR.pd (pr_comp' (N:=["literal"]) (js:=[]) (i:=0) rfl (compOk0 rfl (by decide +kernel) (by decide +kernel) rfl) (pid_seq (pd_var 0)) (by decide) (by decide) rfl rfl (by decide) (fun _ _ _ _=>pifd_nil) (fun _ _ _ _=>(PR.pd (pr_call ok_is_literal (hr.mono (by decide)) (pad_cons (pd_var 0) pad_nil))))))) pab_nil)))) (psd_cons (psd_ret (PD.pr pd_bl))
  psd_nil) psd_nil)
  (psd_cons (psd_ret (PD.pr (pd_cmp od_leD (PD.pb (pd_callB cd_len T.m_len boot_len (pab_cons (PD.pb (PR.pd (pr_comp' (N:=["literal"]) (js:=[]) (i:=0) rfl (compOk0 rfl (by decide +kernel) (by decide +kernel) rfl) (pid_seq (pd_var 0)) (by decide) (by decide) rfl rfl (by decide) (fun _ _ _ _=>pifd_one (pdt_cmp (od_eqO hu) (PD.pb (pd_ix (nlL (naL (by decide) _) hu) (pb_var 0) (PD.pb pd_int))) (PD.pb pd_str))) (fun _ _ _ _=>(pd_var 0))))) pab_nil))) (PD.pb (T.c_MOST_YES.pd)))))
  psd_nil)))
theorem sc_has_predicate : FnScope ["literal"] ["literal"] (defScope (top 34)):=⟨rfl,rfl,rfl,by decide +kernel,rfl,by decide +kernel,by decide +kernel⟩
theorem mk_has_predicate (T : Txt K mg)  : DefOk P w K mg base 1 "has_predicate" ["literal"] M_has_predicate:=
 def_run T.d_has_predicate sc_has_predicate (fun _ _ _ _ _ _ us hl=>match us,hl with | [_],_=>rfl) fun f cdv A outer s H E hr=>by
  have nd : (["literal"] : List Str).Nodup:=sc_has_predicate.nd
  have hu:=hu_of2 hr
  exact (psd_cons (psd_ret (PD.pr (pd_cmp (od_inE hu) (PD.pb (pd_ix (nlL (naL (by decide) _) hu) (pb_var 0) (PD.pb pd_int))) (PD.pb (pd_tup (pad_cons pd_str (pad_cons pd_str pad_nil)))))))
  psd_nil)
theorem sc_literal_variables : FnScope ["literal","terms"] ["literal"] (defScope (top 35)):=⟨rfl,rfl,rfl,by decide +kernel,rfl,by decide +kernel,by decide +kernel⟩
theorem mk_literal_variables (T : Txt K mg) (ok_has_predicate : DefOk P w K mg base 1 "has_predicate" ["literal"] M_has_predicate) (ok_is_variable : DefOk P w K mg base 2 "is_variable" ["thing"] M_is_variable) : DefOk P w K mg base 3 "literal_variables" ["literal"] M_literal_variables:=
 def_run T.d_literal_variables sc_literal_variables (fun _ _ _ _ _ _ us hl=>match us,hl with | [_],_=>rfl) fun f cdv A outer s H E hr=>by
  have nd : (["literal","terms"] : List Str).Nodup:=sc_literal_variables.nd
  have hu:=hu_of2 hr
  exact (psd_cons (psd_set 1 nd (pd_if (pdt_val (PR.pd (pr_call ok_has_predicate (hr.mono (by decide)) (pad_cons (pd_var 0) pad_nil)))) (pd_ix (nlL (naL (by decide) _) hu) (pb_var 0) (PD.pb pd_int)) (PR.pd (pr_slA (pb_var 0) (pod_some pd_int) pod_none))))
  (psd_cons (psd_ret (pr_comp' (N:=["term"]) (js:=[]) (i:=0) rfl (compOk0 rfl (by decide +kernel) (by decide +kernel) rfl) (pid_seq (pd_var 1)) (by decide) (by decide) rfl rfl (by decide) (fun _ _ _ _=>pifd_one (pdt_val (PR.pd (pr_call ok_is_variable (hr.mono (by decide)) (pad_cons (pd_var 0) pad_nil))))) (fun _ _ _ _=>(pd_var 0))))
  psd_nil))
theorem sc_body_variables : FnScope ["body","found","literal"] ["body"] (defScope (top 37)):=⟨rfl,rfl,rfl,by decide +kernel,rfl,by decide +kernel,by decide +kernel⟩
theorem mk_body_variables (T : Txt K mg) (ok_literal_variables : DefOk P w K mg base 3 "literal_variables" ["literal"] M_literal_variables) : DefOk P w K mg base 4 "body_variables" ["body"] M_body_variables:=
 def_run T.d_body_variables sc_body_variables (fun _ _ _ _ _ _ us hl=>match us,hl with | [_],_=>rfl) fun f cdv A outer s H E hr=>by
  have nd : (["body","found","literal"] : List Str).Nodup:=sc_body_variables.nd
  have hu:=hu_of2 hr
  exact (psd_cons (psd_setR 1 nd (pr_lst pad_nil))
  (psd_cons (psd_for 2 nd rfl PassesOwn.never (pid_seq (pd_var 0)) (psd_cons (psd_ext 1 (pr_call ok_literal_variables (hr.mono (by decide)) (pad_cons (pd_var 2) pad_nil)))
  psd_nil))
  (psd_cons (psd_ret (pr_sortSet rfl T.m_sorted T.m_set (pb_var 1)))
  psd_nil)))
theorem sc_is_group : FnScope ["rule"] ["rule"] (defScope (top 33)):=⟨rfl,rfl,rfl,by decide +kernel,rfl,by decide +kernel,by decide +kernel⟩
theorem mk_is_group (T : Txt K mg)  : DefOk P w K mg base 1 "is_group" ["rule"] M_is_group:=
 def_run T.d_is_group sc_is_group (fun _ _ _ _ _ _ us hl=>match us,hl with | [_],_=>rfl) fun f cdv A outer s H E hr=>by
  have nd : (["rule"] : List Str).Nodup:=sc_is_group.nd
  have hu:=hu_of2 hr
  exact (psd_cons (psd_ret (PD.pr (pd_and (pd_cmp od_gt (PD.pb (pd_callB cd_len T.m_len boot_len (pab_cons (PD.pb (pd_ix (nlL (naL (by decide) _) hu) (pb_var 0) (PD.pb pd_int))) pab_nil))) (PD.pb pd_int)) (pd_one (pd_is "tuple" T.t_tuple T.m_isinstance T.m_tuple boot_tuple (PD.pb (pd_ix (nlL (naL (by decide) _) hu) (PD.pb (pd_ix (nlL (naL (by decide) _) hu) (pb_var 0) (PD.pb pd_int))) (PD.pb (pd_neg pd_int)))))))))
  psd_nil)
theorem sc_head_variables : FnScope ["rule","terms"] ["rule"] (defScope (top 36)):=⟨rfl,rfl,rfl,by decide +kernel,rfl,by decide +kernel,by decide +kernel⟩
theorem mk_head_variables (T : Txt K mg) (ok_is_group : DefOk P w K mg base 1 "is_group" ["rule"] M_is_group) (ok_is_variable : DefOk P w K mg base 2 "is_variable" ["thing"] M_is_variable) : DefOk P w K mg base 3 "head_variables" ["rule"] M_head_variables:=
 def_run T.d_head_variables sc_head_variables (fun _ _ _ _ _ _ us hl=>match us,hl with | [_],_=>rfl) fun f cdv A outer s H E hr=>by
  have nd : (["rule","terms"] : List Str).Nodup:=sc_head_variables.nd
  have hu:=hu_of2 hr
  exact (psd_cons (psd_set 1 nd (pd_if (pdt_val (PR.pd (pr_call ok_is_group (hr.mono (by decide)) (pad_cons (pd_var 0) pad_nil)))) (pd_op od_add (PD.pb (PR.pd (pr_slA (PD.pb (pd_ix (nlL (naL (by decide) _) hu) (pb_var 0) (PD.pb pd_int))) pod_none (pod_some (pd_neg pd_int))))) (PD.pb (PR.pd (pr_slA (PD.pb (pd_ix (nlL (naL (by decide) _) hu) (PD.pb (pd_ix (nlL (naL (by decide) _) hu) (pb_var 0) (PD.pb pd_int))) (PD.pb (pd_neg pd_int)))) (pod_some pd_int) pod_none)))) (pd_ix (nlL (naL (by decide) _) hu) (pb_var 0) (PD.pb pd_int))))
  (psd_cons (psd_ret (pr_comp' (N:=["term"]) (js:=[]) (i:=0) rfl (compOk0 rfl (by decide +kernel) (by decide +kernel) rfl) (pid_seq (pd_var 1)) (by decide) (by decide) rfl rfl (by decide) (fun _ _ _ _=>pifd_one (pdt_val (PR.pd (pr_call ok_is_variable (hr.mono (by decide)) (pad_cons (pd_var 0) pad_nil))))) (fun _ _ _ _=>(pd_var 0))))
  psd_nil))
theorem sc_rule_variables : FnScope ["rule"] ["rule"] (defScope (top 38)):=⟨rfl,rfl,rfl,by decide +kernel,rfl,by decide +kernel,by decide +kernel⟩
theorem mk_rule_variables (T : Txt K mg) (ok_body_variables : DefOk P w K mg base 4 "body_variables" ["body"] M_body_variables) (ok_head_variables : DefOk P w K mg base 3 "head_variables" ["rule"] M_head_variables) : DefOk P w K mg base 5 "rule_variables" ["rule"] M_rule_variables:=
 def_run T.d_rule_variables sc_rule_variables (fun _ _ _ _ _ _ us hl=>match us,hl with | [_],_=>rfl) fun f cdv A outer s H E hr=>by
  have nd : (["rule"] : List Str).Nodup:=sc_rule_variables.nd
  have hu:=hu_of2 hr
  exact (psd_cons (psd_ret (pr_sortSet rfl T.m_sorted T.m_set (PD.pb (pd_op od_add (PD.pb (PR.pd (pr_call ok_head_variables (hr.mono (by decide)) (pad_cons (pd_var 0) pad_nil)))) (PD.pb (PR.pd (pr_call ok_body_variables (hr.mono (by decide)) (pad_cons (pd_ix (nlL (naL (by decide) _) hu) (pb_var 0) (PD.pb pd_int)) pad_nil))))))))
  psd_nil)
theorem sc_is_rule : FnScope ["thing"] ["thing"] (defScope (top 32)):=⟨rfl,rfl,rfl,by decide +kernel,rfl,by decide +kernel,by decide +kernel⟩
theorem mk_is_rule (T : Txt K mg) (ok_are_head_terms : DefOk P w K mg base 6 "are_head_terms" ["thing"] M_are_head_terms) (ok_is_body : DefOk P w K mg base 7 "is_body" ["thing"] M_is_body) (ok_is_name : DefOk P w K mg base 2 "is_name" ["thing"] M_is_name) (ok_rule_variables : DefOk P w K mg base 5 "rule_variables" ["rule"] M_rule_variables) : DefOk P w K mg base 8 "is_rule" ["thing"] M_is_rule:=
 def_run T.d_is_rule sc_is_rule (fun _ _ _ _ _ _ us hl=>match us,hl with | [_],_=>rfl) fun f cdv A outer s H E hr=>by
  have nd : (["thing"] : List Str).Nodup:=sc_is_rule.nd
  have hu:=hu_of2 hr
  exact (psd_cons (psd_if (PDW.pdt (pdw_or (pdt_not (pdt_val (pd_is "tuple" T.t_tuple T.m_isinstance T.m_tuple boot_tuple (pb_var 0)))) (pdw_or1 (pdt_cmp (od_neE hu) (PD.pb (pd_callB cd_len T.m_len boot_len (pab_cons (pb_var 0) pab_nil))) (PD.pb pd_int))))) (psd_cons (psd_ret (PD.pr pd_bl))
  psd_nil) psd_nil)
  (psd_cons (psd_if (PDW.pdt (pdw_or (pdt_not (pdt_val (PR.pd (pr_call ok_is_name (hr.mono (by decide)) (pad_cons (pd_ix (nlL (naL (by decide) _) hu) (pb_var 0) (PD.pb pd_int)) pad_nil))))) (pdw_or (pdt_not (pdt_val (PR.pd (pr_call ok_are_head_terms (hr.mono (by decide)) (pad_cons (pd_ix (nlL (naL (by decide) _) hu) (pb_var 0) (PD.pb pd_int)) pad_nil))))) (pdw_or1 (pdt_not (pdt_val (PR.pd (pr_call ok_is_body (hr.mono (by decide)) (pad_cons (pd_ix (nlL (naL (by decide) _) hu) (pb_var 0) (PD.pb pd_int)) pad_nil))))))))) (psd_cons (psd_ret (PD.pr pd_bl))
  psd_nil) psd_nil)
  (psd_cons (psd_ret (PD.pr (pd_cmp od_leD (PD.pb (pd_callB cd_len T.m_len boot_len (pab_cons (PD.pb (PR.pd (pr_call ok_rule_variables (hr.mono (by decide)) (pad_cons (pd_var 0) pad_nil)))) pab_nil))) (PD.pb (T.c_MOST_VARIABLES.pd)))))
  psd_nil)))
theorem sc_is_numeral : FnScope ["word","figures"] ["word"] (defScope (top 41)):=⟨rfl,rfl,rfl,by decide +kernel,rfl,by decide +kernel,by decide +kernel⟩
theorem mk_is_numeral (T : Txt K mg) (ok_is_figure : DefOk P w K mg base 1 "is_figure" ["sign"] M_is_figure) : DefOk P w K mg base 2 "is_numeral" ["word"] M_is_numeral:=
 def_run T.d_is_numeral sc_is_numeral (fun _ _ _ _ _ _ us hl=>match us,hl with | [_],_=>rfl) fun f cdv A outer s H E hr=>by
  have nd : (["word","figures"] : List Str).Nodup:=sc_is_numeral.nd
  have hu:=hu_of2 hr
  exact (psd_cons (psd_set 1 nd (pd_if (pdt_val (pd_starts (pd_var 0) pd_str)) (pd_slS (pb_var 0) (pod_some pd_int) pod_none) (pd_var 0)))
  (psd_cons (psd_if (PDW.pdt (pdw_or (pdt_not (pdt_chain od_leD od_leD (PD.pb pd_int) (PD.pb (pd_callB cd_len T.m_len boot_len (pab_cons (pb_var 1) pab_nil))) (PD.pb (T.c_MOST_FIGURES.pd)))) (pdw_or1 (pdt_not (pdt_val (pd_callB (cd_all rfl) T.m_all boot_all (pab_cons (PD.pb (PR.pd (pr_comp' (N:=["sign"]) (js:=[]) (i:=0) rfl (compOk0 rfl (by decide +kernel) (by decide +kernel) rfl) (pid_seq (pd_var 1)) (by decide) (by decide) rfl rfl (by decide) (fun _ _ _ _=>pifd_nil) (fun _ _ _ _=>(PR.pd (pr_call ok_is_figure (hr.mono (by decide)) (pad_cons (pd_var 0) pad_nil))))))) pab_nil))))))) (psd_cons (psd_ret (PD.pr pd_bl))
  psd_nil) psd_nil)
  (psd_cons (psd_ret (PD.pr (pd_or (pd_cmp (od_neE hu) (PD.pb (pd_ix (nlL (naL (by decide) _) hu) (pb_var 1) (PD.pb pd_int))) (PD.pb pd_str)) (pd_one (pd_cmp (od_eqO hu) (pb_var 0) (PD.pb pd_str))))))
  psd_nil)))
theorem sc_read_terms : FnScope ["words"] ["words"] (defScope (top 42)):=⟨rfl,rfl,rfl,by decide +kernel,rfl,by decide +kernel,by decide +kernel⟩
theorem mk_read_terms (T : Txt K mg) (ok_is_numeral : DefOk P w K mg base 2 "is_numeral" ["word"] M_is_numeral) : DefOk P w K mg base 3 "read_terms" ["words"] M_read_terms:=
 def_run T.d_read_terms sc_read_terms (fun _ _ _ _ _ _ us hl=>match us,hl with | [_],_=>rfl) fun f cdv A outer s H E hr=>by
  have nd : (["words"] : List Str).Nodup:=sc_read_terms.nd
  have hu:=hu_of2 hr
  exact (psd_cons (psd_ret (PD.pr (pd_callTy cd_tuple T.m_tuple boot_tuple (pab_cons (PD.pb (PR.pd (pr_comp' (N:=["word"]) (js:=[]) (i:=0) rfl (compOk0 rfl (by decide +kernel) (by decide +kernel) rfl) (pid_seq (pd_var 0)) (by decide) (by decide) rfl rfl (by decide) (fun _ _ _ _=>pifd_nil) (fun _ _ _ _=>(pd_if (pdt_val (PR.pd (pr_call ok_is_numeral (hr.mono (by decide)) (pad_cons (pd_var 0) pad_nil)))) (pd_callTy cd_intT T.m_int boot_int (pab_cons (pb_var 0) pab_nil)) (pd_var 0)))))) pab_nil))))
  psd_nil)
theorem sc_read_fact : FnScope ["text","words","fact"] ["text"] (defScope (top 43)):=⟨rfl,rfl,rfl,by decide +kernel,rfl,by decide +kernel,by decide +kernel⟩
theorem mk_read_fact (T : Txt K mg) (ok_is_fact : DefOk P w K mg base 4 "is_fact" ["thing"] M_is_fact) (ok_read_terms : DefOk P w K mg base 3 "read_terms" ["words"] M_read_terms) : DefOk P w K mg base 5 "read_fact" ["text"] M_read_fact:=
 def_run T.d_read_fact sc_read_fact (fun _ _ _ _ _ _ us hl=>match us,hl with | [_],_=>rfl) fun f cdv A outer s H E hr=>by
  have nd : (["text","words","fact"] : List Str).Nodup:=sc_read_fact.nd
  have hu:=hu_of2 hr
  exact (psd_cons (psd_set 1 nd (PR.pd (pr_split (pd_var 0) pd_str)))
  (psd_cons (psd_set 2 nd (pd_tup (pad_cons (pd_ix (nlL (naL (by decide) _) hu) (pb_var 1) (PD.pb pd_int)) (pad_cons (PR.pd (pr_call ok_read_terms (hr.mono (by decide)) (pad_cons (PR.pd (pr_slA (pb_var 1) (pod_some pd_int) pod_none)) pad_nil))) pad_nil))))
  (psd_cons (psd_if (pdt_not (pdt_val (PR.pd (pr_call ok_is_fact (hr.mono (by decide)) (pad_cons (pd_var 2) pad_nil))))) (psd_cons (psd_raise T.x_0 (pad_cons pd_str pad_nil))
  psd_nil) psd_nil)
  (psd_cons (psd_retV 2)
  psd_nil))))
theorem mkE_read_fact (T : Txt K mg) (ok_is_fact : DefOk P w K mg base 4 "is_fact" ["thing"] M_is_fact) (ok_read_terms : DefOk P w K mg base 3 "read_terms" ["words"] M_read_terms) : DefOkE P w K mg base 5 "read_fact" ["text"] Mx_read_fact:=
 def_runE T.d_read_fact sc_read_fact (fun _ _ _ _ _ _ us hl=>match us,hl with | [_],_=>rfl) fun f cdv A outer s H E hr=>by
  have nd : (["text","words","fact"] : List Str).Nodup:=sc_read_fact.nd
  have hu:=hu_of2 hr
  exact (psd_cons (psd_set 1 nd (PR.pd (pr_split (pd_var 0) pd_str)))
  (psd_cons (psd_set 2 nd (pd_tup (pad_cons (pd_ix (nlL (naL (by decide) _) hu) (pb_var 1) (PD.pb pd_int)) (pad_cons (PR.pd (pr_call ok_read_terms (hr.mono (by decide)) (pad_cons (PR.pd (pr_slA (pb_var 1) (pod_some pd_int) pod_none)) pad_nil))) pad_nil))))
  (psd_cons (psd_if (pdt_not (pdt_val (PR.pd (pr_call ok_is_fact (hr.mono (by decide)) (pad_cons (pd_var 2) pad_nil))))) (psd_cons (psd_raise T.x_0 (pad_cons pd_str pad_nil))
  psd_nil) psd_nil)
  (psd_cons (psd_retV 2)
  psd_nil))))
theorem sc_read_literal : FnScope ["text","words"] ["text"] (defScope (top 44)):=⟨rfl,rfl,rfl,by decide +kernel,rfl,by decide +kernel,by decide +kernel⟩
theorem mk_read_literal (T : Txt K mg) (ok_read_terms : DefOk P w K mg base 3 "read_terms" ["words"] M_read_terms) : DefOk P w K mg base 4 "read_literal" ["text"] M_read_literal:=
 def_run T.d_read_literal sc_read_literal (fun _ _ _ _ _ _ us hl=>match us,hl with | [_],_=>rfl) fun f cdv A outer s H E hr=>by
  have nd : (["text","words"] : List Str).Nodup:=sc_read_literal.nd
  have hu:=hu_of2 hr
  exact (psd_cons (psd_set 1 nd (PR.pd (pr_split (pd_var 0) pd_str)))
  (psd_cons (psd_if (pdt_cmp (od_inE hu) (PD.pb (pd_ix (nlL (naL (by decide) _) hu) (pb_var 1) (PD.pb pd_int))) (PD.pb (pd_tup (pad_cons pd_str (pad_cons pd_str pad_nil))))) (psd_cons (psd_ret (PD.pr (pd_op od_add (PD.pb (pd_tup (pad_cons (pd_ix (nlL (naL (by decide) _) hu) (pb_var 1) (PD.pb pd_int)) pad_nil))) (PD.pb (PR.pd (pr_call ok_read_terms (hr.mono (by decide)) (pad_cons (PR.pd (pr_slA (pb_var 1) (pod_some pd_int) pod_none)) pad_nil)))))))
  psd_nil) psd_nil)
  (psd_cons (psd_if (pdt_cmp (od_neE hu) (PD.pb (pd_ix (nlL (naL (by decide) _) hu) (pb_var 1) (PD.pb pd_int))) (PD.pb pd_str)) (psd_cons (psd_ret (PD.pr (pd_tup (pad_cons pd_str (pad_cons (pd_ix (nlL (naL (by decide) _) hu) (pb_var 1) (PD.pb pd_int)) (pad_cons (PR.pd (pr_call ok_read_terms (hr.mono (by decide)) (pad_cons (PR.pd (pr_slA (pb_var 1) (pod_some pd_int) pod_none)) pad_nil))) pad_nil))))))
  psd_nil) psd_nil)
  (psd_cons (psd_ret (PD.pr (pd_tup (pad_cons pd_str (pad_cons (pd_join pd_str (PD.pb (PR.pd (pr_slA (pb_var 1) (pod_some pd_int) (pod_some pd_int))))) (pad_cons (PR.pd (pr_call ok_read_terms (hr.mono (by decide)) (pad_cons (PR.pd (pr_slA (pb_var 1) (pod_some pd_int) pod_none)) pad_nil))) pad_nil))))))
  psd_nil))))
theorem sc_read_head_terms : FnScope ["words"] ["words"] (defScope (top 45)):=⟨rfl,rfl,rfl,by decide +kernel,rfl,by decide +kernel,by decide +kernel⟩
theorem mk_read_head_terms (T : Txt K mg) (ok_read_terms : DefOk P w K mg base 3 "read_terms" ["words"] M_read_terms) : DefOk P w K mg base 4 "read_head_terms" ["words"] M_read_head_terms:=
 def_run T.d_read_head_terms sc_read_head_terms (fun _ _ _ _ _ _ us hl=>match us,hl with | [_],_=>rfl) fun f cdv A outer s H E hr=>by
  have nd : (["words"] : List Str).Nodup:=sc_read_head_terms.nd
  have hu:=hu_of2 hr
  exact (psd_cons (psd_if (pdt_cmp (od_eqO hu) (PD.pb (PR.pd (pr_slA (pb_var 0) (pod_some (pd_neg pd_int)) pod_none))) (PD.pb (PR.pd (pr_lst (pad_cons pd_str pad_nil))))) (psd_cons (psd_ret (PD.pr (pd_op od_add (PD.pb (PR.pd (pr_call ok_read_terms (hr.mono (by decide)) (pad_cons (PR.pd (pr_slA (pb_var 0) pod_none (pod_some (pd_neg pd_int)))) pad_nil)))) (PD.pb (pd_tup (pad_cons (pd_tup (pad_cons pd_str pad_nil)) pad_nil))))))
  psd_nil) psd_nil)
  (psd_cons (psd_if (pdt_cmp (od_inE hu) (PD.pb (PR.pd (pr_slA (pb_var 0) (pod_some (pd_neg pd_int)) (pod_some (pd_neg pd_int))))) (PD.pb (pd_tup (pad_cons (PR.pd (pr_lst (pad_cons pd_str pad_nil))) (pad_cons (PR.pd (pr_lst (pad_cons pd_str pad_nil))) pad_nil))))) (psd_cons (psd_ret (PD.pr (pd_op od_add (PD.pb (PR.pd (pr_call ok_read_terms (hr.mono (by decide)) (pad_cons (PR.pd (pr_slA (pb_var 0) pod_none (pod_some (pd_neg pd_int)))) pad_nil)))) (PD.pb (pd_tup (pad_cons (pd_callTy cd_tuple T.m_tuple boot_tuple (pab_cons (PD.pb (PR.pd (pr_slA (pb_var 0) (pod_some (pd_neg pd_int)) pod_none))) pab_nil)) pad_nil))))))
  psd_nil) psd_nil)
  (psd_cons (psd_ret (pr_call ok_read_terms (hr.mono (by decide)) (pad_cons (pd_var 0) pad_nil)))
  psd_nil)))
theorem sc_read_rule : FnScope ["text","parts","head","body","rule"] ["text"] (defScope (top 46)):=⟨rfl,rfl,rfl,by decide +kernel,rfl,by decide +kernel,by decide +kernel⟩
theorem mk_read_rule (T : Txt K mg) (ok_is_rule : DefOk P w K mg base 8 "is_rule" ["thing"] M_is_rule) (ok_read_head_terms : DefOk P w K mg base 4 "read_head_terms" ["words"] M_read_head_terms) (ok_read_literal : DefOk P w K mg base 4 "read_literal" ["text"] M_read_literal) : DefOk P w K mg base 9 "read_rule" ["text"] M_read_rule:=
 def_run T.d_read_rule sc_read_rule (fun _ _ _ _ _ _ us hl=>match us,hl with | [_],_=>rfl) fun f cdv A outer s H E hr=>by
  have nd : (["text","parts","head","body","rule"] : List Str).Nodup:=sc_read_rule.nd
  have hu:=hu_of2 hr
  exact (psd_cons (psd_set 1 nd (pd_part (pd_var 0) pd_str))
  (psd_cons (psd_set 2 nd (PR.pd (pr_split (pd_ix (nlL (naL (by decide) _) hu) (pb_var 1) (PD.pb pd_int)) pd_str)))
  (psd_cons (psd_setC 3 (N:=["literal"]) (js:=[]) (i:=0) nd rfl (compOk0 rfl (by decide +kernel) (by decide +kernel) rfl) (pid_seq (PR.pd (pr_split (pd_ix (nlL (naL (by decide) _) hu) (pb_var 1) (PD.pb pd_int)) pd_str))) (by decide) (by decide) rfl rfl (by decide) (fun _ _ _ _=>pifd_nil) (fun _ _ _ _=>(PR.pd (pr_call ok_read_literal (hr.mono (by decide)) (pad_cons (pd_var 0) pad_nil)))))
  (psd_cons (psd_set 4 nd (pd_tup (pad_cons (pd_ix (nlL (naL (by decide) _) hu) (pb_var 2) (PD.pb pd_int)) (pad_cons (PR.pd (pr_call ok_read_head_terms (hr.mono (by decide)) (pad_cons (PR.pd (pr_slA (pb_var 2) (pod_some pd_int) pod_none)) pad_nil))) (pad_cons (pd_callTy cd_tuple T.m_tuple boot_tuple (pab_cons (pb_var 3) pab_nil)) pad_nil)))))
  (psd_cons (psd_if (pdt_not (pdt_val (PR.pd (pr_call ok_is_rule (hr.mono (by decide)) (pad_cons (pd_var 4) pad_nil))))) (psd_cons (psd_raise T.x_0 (pad_cons pd_str pad_nil))
  psd_nil) psd_nil)
  (psd_cons (psd_retV 4)
  psd_nil))))))
theorem mkE_read_rule (T : Txt K mg) (ok_is_rule : DefOk P w K mg base 8 "is_rule" ["thing"] M_is_rule) (ok_read_head_terms : DefOk P w K mg base 4 "read_head_terms" ["words"] M_read_head_terms) (ok_read_literal : DefOk P w K mg base 4 "read_literal" ["text"] M_read_literal) : DefOkE P w K mg base 9 "read_rule" ["text"] Mx_read_rule:=
 def_runE T.d_read_rule sc_read_rule (fun _ _ _ _ _ _ us hl=>match us,hl with | [_],_=>rfl) fun f cdv A outer s H E hr=>by
  have nd : (["text","parts","head","body","rule"] : List Str).Nodup:=sc_read_rule.nd
  have hu:=hu_of2 hr
  exact (psd_cons (psd_set 1 nd (pd_part (pd_var 0) pd_str))
  (psd_cons (psd_set 2 nd (PR.pd (pr_split (pd_ix (nlL (naL (by decide) _) hu) (pb_var 1) (PD.pb pd_int)) pd_str)))
  (psd_cons (psd_setC 3 (N:=["literal"]) (js:=[]) (i:=0) nd rfl (compOk0 rfl (by decide +kernel) (by decide +kernel) rfl) (pid_seq (PR.pd (pr_split (pd_ix (nlL (naL (by decide) _) hu) (pb_var 1) (PD.pb pd_int)) pd_str))) (by decide) (by decide) rfl rfl (by decide) (fun _ _ _ _=>pifd_nil) (fun _ _ _ _=>(PR.pd (pr_call ok_read_literal (hr.mono (by decide)) (pad_cons (pd_var 0) pad_nil)))))
  (psd_cons (psd_set 4 nd (pd_tup (pad_cons (pd_ix (nlL (naL (by decide) _) hu) (pb_var 2) (PD.pb pd_int)) (pad_cons (PR.pd (pr_call ok_read_head_terms (hr.mono (by decide)) (pad_cons (PR.pd (pr_slA (pb_var 2) (pod_some pd_int) pod_none)) pad_nil))) (pad_cons (pd_callTy cd_tuple T.m_tuple boot_tuple (pab_cons (pb_var 3) pab_nil)) pad_nil)))))
  (psd_cons (psd_if (pdt_not (pdt_val (PR.pd (pr_call ok_is_rule (hr.mono (by decide)) (pad_cons (pd_var 4) pad_nil))))) (psd_cons (psd_raise T.x_0 (pad_cons pd_str pad_nil))
  psd_nil) psd_nil)
  (psd_cons (psd_retV 4)
  psd_nil))))))
theorem sc__law_cell : FnScope ["_law_script","_law_k","_law_number"] ["_law_script","_law_k"] (defScope (top 48)):=⟨rfl,rfl,rfl,by decide +kernel,rfl,by decide +kernel,by decide +kernel⟩
theorem mk__law_cell (T : Txt K mg)  : DefOk P w K mg base 1 "_law_cell" ["_law_script","_law_k"] M__law_cell:=
 def_run T.d__law_cell sc__law_cell (fun _ _ _ _ _ _ us hl=>match us,hl with | [_,_],_=>rfl) fun f cdv A outer s H E hr=>by
  have nd : (["_law_script","_law_k","_law_number"] : List Str).Nodup:=sc__law_cell.nd
  have hu:=hu_of2 hr
  exact (psd_cons (psd_if (pdt_cmp (od_ltE hu) (pb_var 1) (PD.pb (pd_callB cd_len T.m_len boot_len (pab_cons (pb_var 0) pab_nil)))) (psd_cons (psd_ret (PD.pr (pd_ix (nlL (naL (by decide) _) hu) (pb_var 0) (pb_var 1))))
  psd_nil) psd_nil)
  (psd_cons (psd_set 2 nd (pd_op od_add (PD.pb (pd_op od_mul (pb_var 1) (PD.pb pd_int))) (PD.pb pd_int)))
  (psd_cons (psd_if (pdt_cmp od_gt (PD.pb (pd_callB cd_len T.m_len boot_len (pab_cons (pb_var 0) pab_nil))) (PD.pb pd_int)) (psd_cons (psd_set 2 nd (pd_op od_mod (PD.pb (pd_op od_add (PD.pb (pd_op od_mul (PD.pb (pd_ix (nlL (naL (by decide) _) hu) (pb_var 0) (PD.pb (pd_op od_mod (PD.pb (pd_op od_mul (pb_var 1) (PD.pb pd_int))) (PD.pb (pd_callB cd_len T.m_len boot_len (pab_cons (pb_var 0) pab_nil))))))) (PD.pb pd_int))) (PD.pb (pd_op od_mul (pb_var 1) (PD.pb pd_int))))) (PD.pb pd_int)))
  psd_nil) psd_nil)
  (psd_cons (psd_ret (PD.pr (pd_op od_mod (PD.pb (pd_op od_mul (pb_var 2) (pb_var 2))) (PD.pb pd_int))))
  psd_nil))))
theorem sc__law_stream : FnScope ["_law_cell_here","_law_many","_law_xs","_law_number","_law_k"] ["_law_cell_here","_law_many"] (defScope (top 49)):=⟨rfl,rfl,rfl,by decide +kernel,rfl,by decide +kernel,by decide +kernel⟩
theorem mk__law_stream (T : Txt K mg)  : DefOk P w K mg base 1 "_law_stream" ["_law_cell_here","_law_many"] M__law_stream:=
 def_run T.d__law_stream sc__law_stream (fun _ _ _ _ _ _ us hl=>match us,hl with | [_,_],_=>rfl) fun f cdv A outer s H E hr=>by
  have nd : (["_law_cell_here","_law_many","_law_xs","_law_number","_law_k"] : List Str).Nodup:=sc__law_stream.nd
  have hu:=hu_of2 hr
  exact (psd_cons (psd_setR 2 nd (pr_lst pad_nil))
  (psd_cons (psd_set 3 nd (pd_op od_fdiv (pb_var 0) (PD.pb pd_int)))
  (psd_cons (psd_for 4 nd rfl PassesOwn.never (pid_range T.m_range (pd_var 1)) (psd_cons (psd_if (pdt_cmp (od_eqO hu) (PD.pb (pd_op od_mod (pb_var 0) (PD.pb pd_int))) (PD.pb pd_int)) (psd_cons (psd_app 2 (pd_op od_mod (pb_var 3) (PD.pb (pd_op od_pow (PD.pb pd_int) (PD.pb pd_int)))))
  (psd_cons (psd_set 3 nd (pd_op od_fdiv (pb_var 3) (PD.pb (pd_op od_pow (PD.pb pd_int) (PD.pb pd_int)))))
  psd_nil)) (psd_cons (psd_set 3 nd (pd_op od_mod (PD.pb (pd_op od_add (PD.pb (pd_op od_mul (pb_var 3) (PD.pb pd_int))) (PD.pb pd_int))) (PD.pb pd_int)))
  (psd_cons (psd_app 2 (pd_op od_mod (PD.pb (pd_op od_mul (pb_var 3) (PD.pb pd_int))) (PD.pb pd_int)))
  psd_nil)))
  psd_nil))
  (psd_cons (psd_retV 2)
  psd_nil))))
theorem sc__law_names : FnScope ["_law_cell_here","_law_many","_law_some","_law_size","_law_at","_law_base","_law_names_here","_law_k","_law_name"] ["_law_cell_here","_law_many"] (defScope (top 50)):=⟨rfl,rfl,rfl,by decide +kernel,rfl,by decide +kernel,by decide +kernel⟩
theorem mk__law_names (T : Txt K mg) (ok__law_stream : DefOk P w K mg base 1 "_law_stream" ["_law_cell_here","_law_many"] M__law_stream) : DefOk P w K mg base 2 "_law_names" ["_law_cell_here","_law_many"] M__law_names:=
 def_run T.d__law_names sc__law_names (fun _ _ _ _ _ _ us hl=>match us,hl with | [_,_],_=>rfl) fun f cdv A outer s H E hr=>by
  have nd : (["_law_cell_here","_law_many","_law_some","_law_size","_law_at","_law_base","_law_names_here","_law_k","_law_name"] : List Str).Nodup:=sc__law_names.nd
  have hu:=hu_of2 hr
  exact (psd_cons (psd_set 2 nd pd_str)
  (psd_cons (psd_set 3 nd (pd_op od_add (PD.pb pd_int) (PD.pb (pd_op od_mod (pb_var 0) (PD.pb pd_int)))))
  (psd_cons (psd_set 4 nd (pd_op od_mod (PD.pb (pd_op od_fdiv (pb_var 0) (PD.pb pd_int))) (pb_var 3)))
  (psd_cons (psd_set 5 nd (PR.pd (pr_comp' (N:=["_law_x"]) (js:=[]) (i:=0) rfl (compOk0 rfl (by decide +kernel) (by decide +kernel) rfl) (pid_seq (PR.pd (pr_call ok__law_stream (hr.mono (by decide)) (pad_cons (pd_op od_fdiv (pb_var 0) (PD.pb pd_int)) (pad_cons pd_int pad_nil))))) (by decide) (by decide) rfl rfl (by decide) (fun _ _ _ _=>pifd_nil) (fun _ _ _ _=>(pd_op od_mod (pb_var 0) (PD.pb pd_int))))))
  (psd_cons (psd_setR 6 nd (pr_lst pad_nil))
  (psd_cons (psd_for 7 nd rfl PassesOwn.never (pid_range T.m_range (pd_var 1)) (psd_cons (psd_set 8 nd (pd_join pd_str (PD.pb (PR.pd (pr_comp' (N:=["_law_j","_law_some","_law_at","_law_base","_law_k"]) (js:=[2,4,5,7]) (i:=0) rfl (compOkF (sn:=(defScope (top 50)).names) rfl rfl (by decide +kernel) rfl (by decide +kernel) (by decide +kernel) rfl (by intro k j x e1 e2; rcases k with _ | _ | _ | _ | k <;> first | (cases e1; cases e2; exact ⟨rfl,(by first | exact Or.inl rfl | exact Or.inr rfl),(by first | exact Or.inl rfl | exact Or.inr (Or.inl rfl) | exact Or.inr (Or.inr rfl)),(by first | exact Or.inl rfl | exact Or.inr rfl)⟩) | (simp at e1))) (pid_range T.m_range (pd_var 3)) (by decide) (by decide) rfl rfl (by decide) (fun _ _ _ _=>pifd_nil) (fun _ _ _ _=>(pd_ix (nlL (naL (by decide) _) hu) (pb_var 1) (PD.pb (pd_op od_mod (PD.pb (pd_op od_add (PD.pb (pd_ix (nlL (naL (by decide) _) hu) (pb_var 3) (pb_var 0))) (PD.pb (pd_op od_mul (PD.pb (pd_op od_mul (PD.pb pd_int) (pb_var 4))) (PD.pb (pd_callTy cd_int T.m_int boot_int (pab_cons (PD.pb (pd_cmp (od_eqO hu) (pb_var 0) (pb_var 2))) pab_nil))))))) (PD.pb pd_int))))))))))
  (psd_cons (psd_if (pdt_cmp (od_inE hu) (pb_var 8) (PD.pb (pd_tup (pad_cons pd_str (pad_cons pd_str (pad_cons pd_str (pad_cons pd_str (pad_cons pd_str (pad_cons pd_str (pad_cons pd_str pad_nil)))))))))) (psd_cons (psd_set 8 nd (pd_op od_add (PD.pb pd_str) (pb_var 8)))
  psd_nil) psd_nil)
  (psd_cons (psd_app 6 (pd_var 8))
  psd_nil))))
  (psd_cons (psd_retV 6)
  psd_nil)))))))
theorem sc__law_refused : FnScope ["_law_text","_law_way","_law_good","e"] ["_law_text","_law_way"] (defScope (top 51)):=⟨rfl,rfl,rfl,by decide +kernel,rfl,by decide +kernel,by decide +kernel⟩
theorem mk__law_refused (T : Txt K mg) (ok_read_fact : DefOk P w K mg base 5 "read_fact" ["text"] M_read_fact) (okE_read_fact : DefOkE P w K mg base 5 "read_fact" ["text"] Mx_read_fact) (ok_read_rule : DefOk P w K mg base 9 "read_rule" ["text"] M_read_rule) (okE_read_rule : DefOkE P w K mg base 9 "read_rule" ["text"] Mx_read_rule) : DefOk P w K mg base 10 "_law_refused" ["_law_text","_law_way"] M__law_refused:=
 def_run T.d__law_refused sc__law_refused (fun _ _ _ _ _ _ us hl=>match us,hl with | [_,_],_=>rfl) fun f cdv A outer s H E hr=>by
  have nd : (["_law_text","_law_way","_law_good","e"] : List Str).Nodup:=sc__law_refused.nd
  have hu:=hu_of2 hr
  exact (psd_cons (psd_set 2 nd pd_bl)
  (psd_cons (psd_try 3 nd (fun _ _=>(psd_cons (psd_if (pdt_cmp (od_eqO hu) (pb_var 1) (PD.pb pd_int)) (psd_cons (psd_or (psd_drop (PD.px (PR.pd (pr_call ok_read_fact (hr.mono (by decide)) (pad_cons (pd_var 0) pad_nil))))) (psd_dropE okE_read_fact (hr.mono (by decide)) (pam_val (pd_var 0) pam_nil)))
  psd_nil) (psd_cons (psd_or (psd_drop (PD.px (PR.pd (pr_call ok_read_rule (hr.mono (by decide)) (pad_cons (pd_var 0) pad_nil))))) (psd_dropE okE_read_rule (hr.mono (by decide)) (pam_val (pd_var 0) pam_nil)))
  psd_nil))
  psd_nil)) (fun _=>(psd_cons (psd_set 2 nd (pd_and (pd_isOb1 3 T.x_3 T.m_isinstance) (pd_one (pd_isObB 3 "ValueError" T.x_4 T.m_isinstance T.m_ValueError))))
  (psd_cons (psd_set 2 nd (pd_and (pd_var 2) (pd_one (pd_not (pd_isObT 3 T.x_2 T.m_isinstance (pac_cons (pac_cons (pac_cons (pac_cons (pac_cons (pac_cons pac_nil)))))))))))
  psd_nil))) T.x_1)
  (psd_cons (psd_retV 2)
  psd_nil)))
theorem sc__law_odd_facts : FnScope ["_law_p","_law_a","_law_number","_law_odd"] ["_law_p","_law_a","_law_number"] (defScope (top 52)):=⟨rfl,rfl,rfl,by decide +kernel,rfl,by decide +kernel,by decide +kernel⟩
theorem mk__law_odd_facts (T : Txt K mg)  : DefOk P w K mg base 1 "_law_odd_facts" ["_law_p","_law_a","_law_number"] M__law_odd_facts:=
 def_run T.d__law_odd_facts sc__law_odd_facts (fun _ _ _ _ _ _ us hl=>match us,hl with | [_,_,_],_=>rfl) fun f cdv A outer s H E hr=>by
  have nd : (["_law_p","_law_a","_law_number","_law_odd"] : List Str).Nodup:=sc__law_odd_facts.nd
  have hu:=hu_of2 hr
  exact (psd_cons (psd_set 3 nd (PR.pd (pr_lst (pad_cons pd_str (pad_cons pd_str (pad_cons (pd_op od_add (pb_var 0) (PD.pb pd_str)) (pad_cons (pd_op od_add (PD.pb pd_str) (pb_var 0)) (pad_cons (pd_op od_add (PD.pb pd_str) (pb_var 1)) (pad_cons (pd_op od_add (pb_var 0) (PD.pb pd_str)) (pad_cons (pd_op od_add (PD.pb (pd_op od_add (pb_var 0) (PD.pb pd_str))) (pb_var 2)) (pad_cons (pd_op od_add (pb_var 0) (PD.pb pd_str)) (pad_cons (pd_op od_add (pb_var 0) (PD.pb pd_str)) (pad_cons pd_str pad_nil)))))))))))))
  (psd_cons (psd_set 3 nd (pd_op od_add (pb_var 3) (PD.pb (PR.pd (pr_lst (pad_cons (pd_op od_add (PD.pb (pd_op od_add (pb_var 0) (PD.pb pd_str))) (pb_var 2)) (pad_cons (pd_op od_add (PD.pb (pd_op od_add (pb_var 0) (PD.pb pd_str))) (pb_var 2)) (pad_cons (pd_op od_add (pb_var 0) (PD.pb pd_str)) (pad_cons (pd_op od_add (PD.pb (pd_op od_add (PD.pb (pd_op od_add (pb_var 0) (PD.pb pd_str))) (pb_var 1))) (PD.pb pd_str)) (pad_cons (pd_op od_add (PD.pb pd_str) (pb_var 1)) pad_nil))))))))))
  (psd_cons (psd_set 3 nd (pd_op od_add (pb_var 3) (PD.pb (PR.pd (pr_lst (pad_cons (pd_op od_add (PD.pb pd_str) (pb_var 1)) (pad_cons (pd_op od_add (pb_var 0) (PD.pb pd_str)) (pad_cons (pd_op od_add (pb_var 0) (PD.pb pd_str)) (pad_cons (pd_op od_add (pb_var 0) (PD.pb pd_str)) (pad_cons (pd_op od_add (PD.pb pd_str) (pb_var 1)) (pad_cons (pd_op od_add (PD.pb (pd_op od_add (pb_var 2) (PD.pb pd_str))) (pb_var 1)) pad_nil)))))))))))
  (psd_cons (psd_set 3 nd (pd_op od_add (pb_var 3) (PD.pb (PR.pd (pr_lst (pad_cons (pd_op od_add (PD.pb pd_str) (pb_var 2)) (pad_cons (pd_op od_add (PD.pb (pd_op od_add (pb_var 0) (PD.pb pd_str))) (PD.pb (pd_op od_mulS (PD.pb pd_str) (PD.pb pd_int)))) (pad_cons (pd_op od_add (pb_var 0) (PD.pb pd_str)) (pad_cons (pd_op od_add (pb_var 0) (PD.pb pd_str)) (pad_cons (pd_op od_add (pb_var 0) (PD.pb pd_str)) (pad_cons (pd_op od_add (PD.pb (pd_op od_add (pb_var 0) (PD.pb pd_str))) (pb_var 1)) pad_nil)))))))))))
  (psd_cons (psd_ret (PD.pr (pd_op od_add (pb_var 3) (PD.pb (PR.pd (pr_lst (pad_cons (pd_op od_add (PD.pb (pd_op od_add (PD.pb (pd_op od_add (pb_var 0) (PD.pb pd_str))) (pb_var 1))) (PD.pb pd_str)) (pad_cons (pd_op od_add (pb_var 0) (PD.pb pd_str)) (pad_cons (pd_op od_add (pb_var 0) (PD.pb pd_str)) (pad_cons (pd_op od_add (PD.pb (pd_op od_add (pb_var 0) (PD.pb pd_str))) (pb_var 1)) (pad_cons (pd_op od_add (pb_var 0) (PD.pb pd_str)) pad_nil)))))))))))
  psd_nil)))))
theorem sc__law_odd_rules : FnScope ["_law_p","_law_a","_law_number","_law_odd"] ["_law_p","_law_a","_law_number"] (defScope (top 53)):=⟨rfl,rfl,rfl,by decide +kernel,rfl,by decide +kernel,by decide +kernel⟩
theorem mk__law_odd_rules (T : Txt K mg)  : DefOk P w K mg base 1 "_law_odd_rules" ["_law_p","_law_a","_law_number"] M__law_odd_rules:=
 def_run T.d__law_odd_rules sc__law_odd_rules (fun _ _ _ _ _ _ us hl=>match us,hl with | [_,_,_],_=>rfl) fun f cdv A outer s H E hr=>by
  have nd : (["_law_p","_law_a","_law_number","_law_odd"] : List Str).Nodup:=sc__law_odd_rules.nd
  have hu:=hu_of2 hr
  exact (psd_cons (psd_set 3 nd (PR.pd (pr_lst (pad_cons pd_str (pad_cons pd_str (pad_cons (pd_var 0) (pad_cons (pd_op od_add (pb_var 0) (PD.pb pd_str)) (pad_cons (pd_op od_add (pb_var 0) (PD.pb pd_str)) (pad_cons pd_str (pad_cons pd_str (pad_cons (pd_op od_add (pb_var 0) (PD.pb pd_str)) (pad_cons (pd_op od_add (pb_var 0) (PD.pb pd_str)) (pad_cons (pd_op od_add (pb_var 0) (PD.pb pd_str)) pad_nil)))))))))))))
  (psd_cons (psd_set 3 nd (pd_op od_add (pb_var 3) (PD.pb (PR.pd (pr_lst (pad_cons (pd_op od_add (pb_var 0) (PD.pb pd_str)) (pad_cons (pd_op od_add (pb_var 0) (PD.pb pd_str)) (pad_cons (pd_op od_add (pb_var 0) (PD.pb pd_str)) (pad_cons (pd_op od_add (pb_var 0) (PD.pb pd_str)) pad_nil)))))))))
  (psd_cons (psd_set 3 nd (pd_op od_add (pb_var 3) (PD.pb (PR.pd (pr_lst (pad_cons (pd_op od_add (pb_var 0) (PD.pb pd_str)) (pad_cons (pd_op od_add (pb_var 0) (PD.pb pd_str)) (pad_cons (pd_op od_add (pb_var 0) (PD.pb pd_str)) (pad_cons (pd_op od_add (pb_var 0) (PD.pb pd_str)) pad_nil)))))))))
  (psd_cons (psd_set 3 nd (pd_op od_add (pb_var 3) (PD.pb (PR.pd (pr_lst (pad_cons pd_str (pad_cons (pd_op od_add (pb_var 0) (PD.pb pd_str)) (pad_cons (pd_op od_add (pb_var 0) (PD.pb pd_str)) (pad_cons (pd_op od_add (pb_var 0) (PD.pb pd_str)) (pad_cons pd_str (pad_cons pd_str pad_nil)))))))))))
  (psd_cons (psd_set 3 nd (pd_op od_add (pb_var 3) (PD.pb (PR.pd (pr_lst (pad_cons (pd_op od_add (PD.pb (pd_op od_add (PD.pb (pd_op od_add (pb_var 0) (PD.pb pd_str))) (pb_var 1))) (PD.pb pd_str)) (pad_cons (pd_op od_add (pb_var 0) (PD.pb pd_str)) (pad_cons (pd_op od_add (pb_var 0) (PD.pb pd_str)) (pad_cons (pd_op od_add (pb_var 0) (PD.pb pd_str)) pad_nil)))))))))
  (psd_cons (psd_set 3 nd (pd_op od_add (pb_var 3) (PD.pb (PR.pd (pr_lst (pad_cons (pd_op od_add (pb_var 0) (PD.pb pd_str)) (pad_cons (pd_op od_add (pb_var 0) (PD.pb pd_str)) (pad_cons (pd_op od_add (pb_var 0) (PD.pb pd_str)) pad_nil))))))))
  (psd_cons (psd_set 3 nd (pd_op od_add (pb_var 3) (PD.pb (PR.pd (pr_lst (pad_cons (pd_op od_add (pb_var 0) (PD.pb pd_str)) (pad_cons (pd_op od_add (pb_var 0) (PD.pb pd_str)) pad_nil)))))))
  (psd_cons (psd_set 3 nd (pd_op od_add (pb_var 3) (PD.pb (PR.pd (pr_lst (pad_cons (pd_op od_add (pb_var 0) (PD.pb pd_str)) (pad_cons (pd_op od_add (pb_var 0) (PD.pb pd_str)) (pad_cons (pd_op od_add (pb_var 0) (PD.pb pd_str)) (pad_cons (pd_op od_add (PD.pb (pd_op od_add (pb_var 0) (PD.pb pd_str))) (pb_var 2)) pad_nil)))))))))
  (psd_cons (psd_set 3 nd (pd_op od_add (pb_var 3) (PD.pb (PR.pd (pr_lst (pad_cons (pd_op od_add (pb_var 0) (PD.pb pd_str)) (pad_cons (pd_op od_add (PD.pb (pd_op od_add (pb_var 0) (PD.pb pd_str))) (PD.pb (pd_op od_mulS (PD.pb pd_str) (PD.pb pd_int)))) (pad_cons (pd_op od_add (pb_var 0) (PD.pb pd_str)) (pad_cons (pd_op od_add (pb_var 0) (PD.pb pd_str)) pad_nil)))))))))
  (psd_cons (psd_set 3 nd (pd_op od_add (pb_var 3) (PD.pb (PR.pd (pr_lst (pad_cons (pd_op od_add (pb_var 0) (PD.pb pd_str)) (pad_cons (pd_op od_add (pb_var 0) (PD.pb pd_str)) (pad_cons (pd_op od_add (pb_var 0) (PD.pb pd_str)) (pad_cons (pd_op od_add (pb_var 2) (PD.pb pd_str)) pad_nil)))))))))
  (psd_cons (psd_ret (PD.pr (pd_op od_add (pb_var 3) (PD.pb (PR.pd (pr_lst (pad_cons (pd_op od_add (PD.pb (pd_op od_add (PD.pb (pd_op od_add (pb_var 0) (PD.pb pd_str))) (pb_var 2))) (PD.pb pd_str)) (pad_cons (pd_op od_add (pb_var 0) (PD.pb pd_str)) (pad_cons (pd_op od_add (pb_var 0) (PD.pb pd_str)) pad_nil)))))))))
  psd_nil)))))))))))
theorem sc__law_spoiled : FnScope ["_law_text","_law_x","_law_y","_law_at","_law_pieces","_law_many"] ["_law_text","_law_x","_law_y"] (defScope (top 54)):=⟨rfl,rfl,rfl,by decide +kernel,rfl,by decide +kernel,by decide +kernel⟩
theorem mk__law_spoiled (T : Txt K mg)  : DefOk P w K mg base 1 "_law_spoiled" ["_law_text","_law_x","_law_y"] M__law_spoiled:=
 def_run T.d__law_spoiled sc__law_spoiled (fun _ _ _ _ _ _ us hl=>match us,hl with | [_,_,_],_=>rfl) fun f cdv A outer s H E hr=>by
  have nd : (["_law_text","_law_x","_law_y","_law_at","_law_pieces","_law_many"] : List Str).Nodup:=sc__law_spoiled.nd
  have hu:=hu_of2 hr
  exact (psd_cons (psd_set 3 nd (pd_op od_mod (PD.pb (pd_op od_fdiv (pb_var 1) (PD.pb pd_int))) (PD.pb (pd_op od_add (PD.pb (pd_callB cd_len T.m_len boot_len (pab_cons (pb_var 0) pab_nil))) (PD.pb pd_int)))))
  (psd_cons (psd_if (pdt_cmp (od_eqO hu) (PD.pb (pd_op od_mod (pb_var 1) (PD.pb pd_int))) (PD.pb pd_int)) (psd_cons (psd_ret (PD.pr (pd_op od_add (PD.pb (pd_op od_add (PD.pb (pd_slS (pb_var 0) pod_none (pod_some (pd_var 3)))) (PD.pb (pd_ix (nlL (naL (by decide) _) hu) (PD.pb pd_str) (PD.pb (pd_op od_mod (pb_var 2) (PD.pb pd_int))))))) (PD.pb (pd_slS (pb_var 0) (pod_some (pd_var 3)) pod_none)))))
  psd_nil) psd_nil)
  (psd_cons (psd_if (pdt_cmp (od_eqO hu) (PD.pb (pd_op od_mod (pb_var 1) (PD.pb pd_int))) (PD.pb pd_int)) (psd_cons (psd_set 4 nd (PR.pd (pr_split (pd_var 0) pd_str)))
  (psd_cons (psd_set 5 nd (pd_op od_add (PD.pb pd_int) (PD.pb (pd_op od_mod (PD.pb (pd_op od_fdiv (pb_var 1) (PD.pb pd_int))) (PD.pb (pd_op od_sub (PD.pb (pd_callB cd_len T.m_len boot_len (pab_cons (pb_var 4) pab_nil))) (PD.pb pd_int)))))))
  (psd_cons (psd_ret (PD.pr (pd_op od_add (PD.pb (pd_op od_add (PD.pb (pd_join pd_str (PD.pb (PR.pd (pr_slA (pb_var 4) pod_none (pod_some (pd_var 5))))))) (PD.pb pd_str))) (PD.pb (pd_join pd_str (PD.pb (PR.pd (pr_slA (pb_var 4) (pod_some (pd_var 5)) pod_none))))))))
  psd_nil))) psd_nil)
  (psd_cons (psd_ret (PD.pr (pd_ix (nlL (naL (by decide) _) hu) (PD.pb (PR.pd (pr_lst (pad_cons (pd_op od_add (pb_var 0) (PD.pb pd_str)) (pad_cons (pd_op od_add (PD.pb pd_str) (pb_var 0)) pad_nil))))) (PD.pb (pd_op od_mod (pb_var 2) (PD.pb pd_int))))))
  psd_nil))))
theorem sc_law : FnScope ["_law_script","_law_names_here","_law_number","_law_fact","_law_rule","_law_k","_law_xs","_law_way","_law_text","_law_odd","_law_literals"] ["_law_script"] (defScope (top 55)):=⟨rfl,rfl,rfl,by decide +kernel,rfl,by decide +kernel,by decide +kernel⟩
theorem mk_law (T : Txt K mg) {f : Addr} {fd : FuncData} (F : Fun K "law" "law" (top 55) f fd) (ok__law_cell : DefOk P w K mg base 1 "_law_cell" ["_law_script","_law_k"] M__law_cell) (ok__law_names : DefOk P w K mg base 2 "_law_names" ["_law_cell_here","_law_many"] M__law_names) (ok__law_odd_facts : DefOk P w K mg base 1 "_law_odd_facts" ["_law_p","_law_a","_law_number"] M__law_odd_facts) (ok__law_odd_rules : DefOk P w K mg base 1 "_law_odd_rules" ["_law_p","_law_a","_law_number"] M__law_odd_rules) (ok__law_refused : DefOk P w K mg base 10 "_law_refused" ["_law_text","_law_way"] M__law_refused) (ok__law_spoiled : DefOk P w K mg base 1 "_law_spoiled" ["_law_text","_law_x","_law_y"] M__law_spoiled) (ok__law_stream : DefOk P w K mg base 1 "_law_stream" ["_law_cell_here","_law_many"] M__law_stream) (ok_read_fact : DefOk P w K mg base 5 "read_fact" ["text"] M_read_fact) (okE_read_fact : DefOkE P w K mg base 5 "read_fact" ["text"] Mx_read_fact) (ok_read_rule : DefOk P w K mg base 9 "read_rule" ["text"] M_read_rule) (okE_read_rule : DefOkE P w K mg base 9 "read_rule" ["text"] Mx_read_rule) : FnOk P w K mg base CX0 11 f fd ["_law_script"] (spD K M_law):=
 def_runF F sc_law fun f cdv A outer s H E hr=>by
  have nd : (["_law_script","_law_names_here","_law_number","_law_fact","_law_rule","_law_k","_law_xs","_law_way","_law_text","_law_odd","_law_literals"] : List Str).Nodup:=sc_law.nd
  have hu:=hu_of2 hr
  exact (psd_cons (psd_set 1 nd (PR.pd (pr_call ok__law_names (hr.mono (by decide)) (pad_cons (PR.pd (pr_call ok__law_cell (hr.mono (by decide)) (pad_cons (pd_var 0) (pad_cons pd_int pad_nil)))) (pad_cons pd_int pad_nil)))))
  (psd_cons (psd_set 2 nd (pd_callTy cd_strT T.m_str boot_str (pab_cons (PD.pb (pd_op od_add (PD.pb pd_int) (PD.pb (pd_op od_mod (PD.pb (PR.pd (pr_call ok__law_cell (hr.mono (by decide)) (pad_cons (pd_var 0) (pad_cons pd_int pad_nil))))) (PD.pb (pd_op od_pow (PD.pb pd_int) (PD.pb pd_int))))))) pab_nil)))
  (psd_cons (psd_set 3 nd (pd_op od_add (PD.pb (pd_op od_add (PD.pb (pd_op od_add (PD.pb (pd_op od_add (PD.pb (pd_ix (nlL (naL (by decide) _) hu) (pb_var 1) (PD.pb pd_int))) (PD.pb pd_str))) (PD.pb (pd_ix (nlL (naL (by decide) _) hu) (pb_var 1) (PD.pb pd_int))))) (PD.pb pd_str))) (pb_var 2)))
  (psd_cons (psd_set 4 nd (pd_op od_add (PD.pb (pd_op od_add (PD.pb (pd_op od_add (PD.pb (pd_ix (nlL (naL (by decide) _) hu) (pb_var 1) (PD.pb pd_int))) (PD.pb pd_str))) (PD.pb (pd_ix (nlL (naL (by decide) _) hu) (pb_var 1) (PD.pb pd_int))))) (PD.pb pd_str)))
  (psd_cons (psd_set 4 nd (pd_op od_add (PD.pb (pd_op od_add (PD.pb (pd_op od_add (pb_var 4) (PD.pb (pd_ix (nlL (naL (by decide) _) hu) (pb_var 1) (PD.pb pd_int))))) (PD.pb pd_str))) (pb_var 2)))
  (psd_cons (psd_for 5 nd rfl PassesOwn.never (pid_range2 T.m_range pd_int (pd_callB (cd_max rfl) T.m_max boot_max (pab_cons (PD.pb pd_int) (pab_cons (PD.pb (pd_callB (cd_min rfl) T.m_min boot_min (pab_cons (PD.pb pd_int) (pab_cons (PD.pb (pd_callB cd_len T.m_len boot_len (pab_cons (pb_var 0) pab_nil))) pab_nil)))) pab_nil)))) (psd_cons (psd_set 6 nd (PR.pd (pr_call ok__law_stream (hr.mono (by decide)) (pad_cons (PR.pd (pr_call ok__law_cell (hr.mono (by decide)) (pad_cons (pd_var 0) (pad_cons (pd_var 5) pad_nil)))) (pad_cons pd_int pad_nil)))))
  (psd_cons (psd_set 7 nd (pd_op od_mod (PD.pb (pd_ix (nlL (naL (by decide) _) hu) (pb_var 6) (PD.pb pd_int))) (PD.pb pd_int)))
  (psd_cons (psd_set 8 nd (PR.pd (pr_call ok__law_spoiled (hr.mono (by decide)) (pad_cons (pd_ix (nlL (naL (by decide) _) hu) (PD.pb (PR.pd (pr_lst (pad_cons (pd_var 3) (pad_cons (pd_var 4) pad_nil))))) (pb_var 7)) (pad_cons (pd_ix (nlL (naL (by decide) _) hu) (pb_var 6) (PD.pb pd_int)) (pad_cons (pd_ix (nlL (naL (by decide) _) hu) (pb_var 6) (PD.pb pd_int)) pad_nil))))))
  (psd_cons (psd_if (pdt_cmp od_gt (PD.pb (pd_op od_mod (PD.pb (pd_ix (nlL (naL (by decide) _) hu) (pb_var 6) (PD.pb pd_int))) (PD.pb pd_int))) (PD.pb pd_int)) (psd_cons (psd_set 9 nd (PR.pd (pr_call ok__law_odd_facts (hr.mono (by decide)) (pad_cons (pd_ix (nlL (naL (by decide) _) hu) (pb_var 1) (PD.pb pd_int)) (pad_cons (pd_ix (nlL (naL (by decide) _) hu) (pb_var 1) (PD.pb pd_int)) (pad_cons (pd_var 2) pad_nil))))))
  (psd_cons (psd_if (pdt_cmp (od_eqO hu) (pb_var 7) (PD.pb pd_int)) (psd_cons (psd_set 9 nd (PR.pd (pr_call ok__law_odd_rules (hr.mono (by decide)) (pad_cons (pd_ix (nlL (naL (by decide) _) hu) (pb_var 1) (PD.pb pd_int)) (pad_cons (pd_ix (nlL (naL (by decide) _) hu) (pb_var 1) (PD.pb pd_int)) (pad_cons (pd_var 2) pad_nil))))))
  psd_nil) psd_nil)
  (psd_cons (psd_set 8 nd (pd_ix (nlL (naL (by decide) _) hu) (pb_var 9) (PD.pb (pd_op od_mod (PD.pb (pd_ix (nlL (naL (by decide) _) hu) (pb_var 6) (PD.pb pd_int))) (PD.pb (pd_callB cd_len T.m_len boot_len (pab_cons (pb_var 9) pab_nil)))))))
  psd_nil))) psd_nil)
  (psd_cons (psd_if (pdt_not (pdt_val (PR.pd (pr_call ok__law_refused (hr.mono (by decide)) (pad_cons (pd_var 8) (pad_cons (pd_var 7) pad_nil)))))) (psd_cons (psd_ret (PD.pr pd_bl))
  psd_nil) psd_nil)
  (psd_cons (psd_if (pdt_cmp (od_neE hu) (PD.pb (PR.pd (pr_call ok_read_fact (hr.mono (by decide)) (pad_cons (pd_var 3) pad_nil)))) (PD.pb (pd_tup (pad_cons (pd_ix (nlL (naL (by decide) _) hu) (pb_var 1) (PD.pb pd_int)) (pad_cons (pd_tup (pad_cons (pd_ix (nlL (naL (by decide) _) hu) (pb_var 1) (PD.pb pd_int)) (pad_cons (pd_op od_sub (PD.pb pd_int) (PD.pb (pd_callTy cd_intT T.m_int boot_int (pab_cons (pb_var 2) pab_nil)))) pad_nil))) pad_nil))))) (psd_cons (psd_ret (PD.pr pd_bl))
  psd_nil) psd_nil)
  psd_nil)))))))
  (psd_cons (psd_set 10 nd (pd_tup (pad_cons (pd_tup (pad_cons pd_str (pad_cons (pd_ix (nlL (naL (by decide) _) hu) (pb_var 1) (PD.pb pd_int)) (pad_cons (pd_tup (pad_cons pd_str (pad_cons pd_str (pad_cons pd_int pad_nil)))) pad_nil)))) (pad_cons (pd_tup (pad_cons pd_str (pad_cons (pd_ix (nlL (naL (by decide) _) hu) (pb_var 1) (PD.pb pd_int)) (pad_cons (pd_tup (pad_cons pd_str pad_nil)) pad_nil)))) (pad_cons (pd_tup (pad_cons pd_str (pad_cons pd_str (pad_cons (pd_callTy cd_intT T.m_int boot_int (pab_cons (pb_var 2) pab_nil)) pad_nil)))) pad_nil)))))
  (psd_cons (psd_ret (PD.pr (pd_cmp (od_eqO hu) (PD.pb (PR.pd (pr_call ok_read_rule (hr.mono (by decide)) (pad_cons (pd_var 4) pad_nil)))) (PD.pb (pd_tup (pad_cons (pd_ix (nlL (naL (by decide) _) hu) (pb_var 1) (PD.pb pd_int)) (pad_cons (pd_tup (pad_cons pd_str (pad_cons (pd_tup (pad_cons pd_str (pad_cons pd_str pad_nil))) pad_nil))) (pad_cons (pd_var 10) pad_nil))))))))
  psd_nil))))))))
abbrev W:=List Nat
abbrev S (l : W) : Str:=⟨l.toArray⟩
def occ (y : W) : Nat->Nat->W->List Nat
 | _,_,[]=>[]
 | k + 1,i,_::r=>occ y k (i + 1) r
 | 0,i,c::r=>if y.isPrefixOf (c::r) = true then i::occ y (y.length - 1) (i + 1) r else occ y 0 (i + 1) r
theorem sub_pre {l y : W} {i : Nat} (hy : 0 < y.length) : (i + y.length <= l.length /\ Builtin.Str.subAt (S l) (S y) i = true) ↔ y.isPrefixOf (l.drop i) = true:=by
 unfold Builtin.Str.subAt
 rw [List.isPrefixOf_iff_prefix,List.prefix_iff_eq_take]
 have e : (S l).cps.extract i (i + (S y).length) = ((l.drop i).take y.length).toArray:=by
  show l.toArray.extract i (i + y.toArray.size) = _
  rw [List.size_toArray,List.extract_toArray,List.extract_eq_drop_take]
  congr 2
  omega
 rw [e,beq_iff_eq]
 constructor
 ·rintro ⟨_,h⟩
  exact (congrArg Array.toList h).symm
 ·intro h
  have hl:=congrArg List.length h
  rw [List.length_take,List.length_drop] at hl
  exact ⟨by omega,by rw [<- h]⟩
open StrLaws in
theorem occ_all {l y : W} (hy : 0 < y.length) : ∀ (m i free : Nat) (found : Array Nat),i + m = l.length + 1->found.size <= i->
  (forIn (List.range' i m) (found,free) (occBody (S l) (S y) l.length (l.length + 1))).run.fst.toList = found.toList++occ y (free - i) i (l.drop i)
 | 0,i,free,found,h,_=>by
  rw [List.drop_eq_nil_of_le (by omega)]
  simp [occ]
 | m + 1,i,free,found,h,hf=>by
  rw [List.range'_succ,List.forIn_cons]
  have key:=sub_pre (l:=l) (y:=y) (i:=i) hy
  unfold occBody
  by_cases c : ((found.size < l.length + 1 /\ free <= i) /\ i + (S y).length <= l.length) /\ Builtin.Str.subAt (S l) (S y) i = true
  ·rw [if_pos c]
   have hl : (S y).length = y.length:=by show y.toArray.size = _; simp
   have hp:=key.mp ⟨by rw [hl] at c; exact c.1.2,c.2⟩
   have hlt : i < l.length:=by rw [hl] at c; omega
   have ih:=occ_all (l:=l) (y:=y) hy m (i + 1) (i + (S y).length) (found.push i) (by omega) (by simp; omega)
   refine Eq.trans ih ?_
   rw [List.drop_eq_getElem_cons hlt,show free - i = 0 by omega] at *
   rw [occ,if_pos hp,hl,show i + y.length - (i + 1) = y.length - 1 by omega]
   simp
  ·rw [if_neg c]
   refine Eq.trans (occ_all hy m (i + 1) free found (by omega) (by omega)) ?_
   by_cases hlt : i < l.length
   ·rw [List.drop_eq_getElem_cons hlt]
    by_cases hfr : free <= i
    ·rw [show free - i = 0 by omega,show free - (i + 1) = 0 by omega,occ,if_neg]
     intro hp
     rw [<- List.drop_eq_getElem_cons hlt] at hp
     have hl : (S y).length = y.length:=by show y.toArray.size = _; simp
     have:=key.mpr hp
     exact c ⟨⟨⟨by omega,hfr⟩,by rw [hl]; exact this.1⟩,this.2⟩
    ·rw [show free - i = (free - (i + 1)) + 1 by omega,occ]
   ·rw [List.drop_eq_nil_of_le (by omega),List.drop_eq_nil_of_le (by omega)]
    simp [occ]
theorem occ_is {l y : W} (hy : 0 < y.length) : Builtin.Str.occurrences (S l) (S y) 0 (S l).length ((S l).length + 1) = occ y 0 0 l:=by
 have hl : (S l).length = l.length:=by show l.toArray.size = _; simp
 rw [StrLaws.occ_eq,hl]
 simpa using occ_all hy (l.length + 1) 0 0 #[] (by omega) (by simp)
open StrLaws in
theorem occ_stay {l y : W} : ∀ (r : List Nat) (found : Array Nat) (free : Nat),1 <= found.size->(forIn r (found,free) (occBody (S l) (S y) l.length 1)).run.fst = found
 | [],found,free,_=>rfl
 | a::r,found,free,h=>by
  rw [List.forIn_cons]
  unfold occBody
  rw [if_neg (by rintro ⟨⟨⟨h1,_⟩,_⟩,_⟩; have h1 : found.size < 1:=h1; omega)]
  exact occ_stay r found free h
open StrLaws in
theorem occ_one {l y : W} (hy : 0 < y.length) : ∀ (m i : Nat),i + m = l.length + 1->
  (forIn (List.range' i m) (#[],0) (occBody (S l) (S y) l.length 1)).run.fst.toList = (occ y 0 i (l.drop i)).take 1
 | 0,i,h=>by
  rw [List.drop_eq_nil_of_le (by omega)]
  simp [occ]
 | m + 1,i,h=>by
  rw [List.range'_succ,List.forIn_cons]
  have key:=sub_pre (l:=l) (y:=y) (i:=i) hy
  have hl : (S y).length = y.length:=by show y.toArray.size = _; simp
  unfold occBody
  by_cases c : (((#[] : Array Nat).size < 1 /\ 0 <= i) /\ i + (S y).length <= l.length) /\ Builtin.Str.subAt (S l) (S y) i = true
  ·rw [if_pos c]
   have hp:=key.mp ⟨by rw [hl] at c; exact c.1.2,c.2⟩
   have hlt : i < l.length:=by rw [hl] at c; omega
   refine Eq.trans (congrArg Array.toList (occ_stay (l:=l) (y:=y) (List.range' (i + 1) m) (#[].push i) (i + (S y).length) (by simp))) ?_
   rw [List.drop_eq_getElem_cons hlt] at *
   rw [occ,if_pos hp]
   simp
  ·rw [if_neg c]
   refine Eq.trans (occ_one hy m (i + 1) (by omega)) ?_
   by_cases hlt : i < l.length
   ·rw [List.drop_eq_getElem_cons hlt,occ,if_neg]
    intro hp
    rw [<- List.drop_eq_getElem_cons hlt] at hp
    have:=key.mpr hp
    exact c ⟨⟨⟨by simp,by omega⟩,by rw [hl]; exact this.1⟩,this.2⟩
   ·rw [List.drop_eq_nil_of_le (by omega),List.drop_eq_nil_of_le (by omega)]
    simp [occ]
theorem occ_first {l y : W} (hy : 0 < y.length) : Builtin.Str.occurrences (S l) (S y) 0 (S l).length 1 = (occ y 0 0 l).take 1:=by
 have hl : (S l).length = l.length:=by show l.toArray.size = _; simp
 rw [StrLaws.occ_eq,hl]
 simpa using occ_one hy (l.length + 1) 0 (by omega)
def cons1 (p : W) : List W->List W | f::o=>(p++f)::o | []=>[p]
def sp (y : W) : Nat->W->List W
 | _,[]=>[[]]
 | k + 1,_::r=>sp y k r
 | 0,c::r=>if y.isPrefixOf (c::r) = true then []::sp y (y.length - 1) r else cons1 [c] (sp y 0 r)
def parts (l : W) (w : Nat) : Nat->List Nat->List W
 | st,[]=>[l.drop st]
 | st,c::cs=>(l.drop st).take (c - st)::parts l w (c + w) cs
theorem parts_is {l : W} {w : Nat} : ∀ (cs : List Nat) (st : Nat),((st::cs.map (· + w)).zip (cs++[l.length])).map (fun p=>Builtin.Str.strSub (S l) p.1 p.2) = (parts l w st cs).map S
 | [],st=>by
  simp only [List.map_nil,List.nil_append,List.zip_cons_cons,List.zip_nil_left,List.map_cons,parts,Builtin.Str.strSub,List.extract_toArray,List.extract_eq_drop_take]
  rw [List.take_of_length_le (by simp)]
 | c::cs,st=>by
  simp only [List.map_cons,List.cons_append,List.zip_cons_cons,parts]
  rw [<- parts_is cs (c + w)]
  simp only [List.map_cons,Builtin.Str.strSub,List.extract_toArray,List.extract_eq_drop_take]
theorem cons1_nil (x : List W) (h : x ≠ []) : cons1 [] x = x:=by cases x with | nil=>exact absurd rfl h | cons f o=>rfl
theorem sp_ne (y : W) : ∀ (l : W) (k : Nat),sp y k l ≠ []
 | [],k=>by cases k <;> simp [sp]
 | c::r,k + 1=>by rw [sp]; exact sp_ne y r k
 | c::r,0=>by
  rw [sp]
  split
  ·simp
  ·unfold cons1; split <;> simp
theorem cons1_cons1 {p q : W} {x : List W} : cons1 p (cons1 q x) = cons1 (p++q) x:=by cases x <;> simp [cons1]
theorem parts_sp {l y : W} (hy : 0 < y.length) : ∀ (r : W),
  (∀ i st,l.drop i = r->st <= i->i <= l.length->parts l y.length st (occ y 0 i r) = cons1 ((l.drop st).take (i - st)) (sp y 0 r)) /\
  (∀ i k,l.drop i = r->k <= r.length->i <= l.length->parts l y.length (i + k) (occ y k i r) = sp y k r)
 | []=>by
  have hA : ∀ i st,l.drop i = []->st <= i->i <= l.length->parts l y.length st (occ y 0 i []) = cons1 ((l.drop st).take (i - st)) (sp y 0 []):=by
   intro i st e h1 h2
   have : l.length <= i:=by simpa using e
   simp only [occ,parts,sp,cons1,List.append_nil]
   rw [List.take_of_length_le (by simp; omega)]
  refine ⟨hA,fun i k e hk h2=>?_⟩
  have : k = 0:=by simpa using hk
  subst this
  simp [occ,parts,sp,e]
 | c::r=>by
  obtain ⟨ihA,ihB⟩:=parts_sp hy r
  have nxt : ∀ i,l.drop i = c::r->l.drop (i + 1) = r /\ i < l.length:=fun i e=>by
   have h1 : i < l.length:=by
    have:=congrArg List.length e
    simp at this; omega
   exact ⟨by rw [<- List.drop_drop,e]; rfl,h1⟩
  have hA : ∀ i st,l.drop i = c::r->st <= i->i <= l.length->parts l y.length st (occ y 0 i (c::r)) = cons1 ((l.drop st).take (i - st)) (sp y 0 (c::r)):=by
   intro i st e h1 h2
   obtain ⟨e1,hlt⟩:=nxt i e
   rw [occ,sp]
   by_cases hp : y.isPrefixOf (c::r) = true
   ·rw [if_pos hp,if_pos hp,parts,cons1,List.append_nil]
    have hl : y.length <= r.length + 1:=by
     have:=(List.isPrefixOf_iff_prefix.mp hp).length_le
     simpa using this
    have:=ihB (i + 1) (y.length - 1) e1 (by omega) (by omega)
    rw [show i + 1 + (y.length - 1) = i + y.length by omega] at this
    rw [this]
   ·rw [if_neg hp,if_neg hp,ihA (i + 1) st e1 (by omega) (by omega),cons1_cons1]
    congr 1
    have e2 : (l.drop st).drop (i - st) = c::r:=by rw [List.drop_drop,show st + (i - st) = i by omega]; exact e
    rw [show i + 1 - st = (i - st) + 1 by omega,List.take_succ]
    congr 1
    have : (l.drop st)[i - st]? = some c:=by
     have:=congrArg (·[0]?) e2
     simpa using this
    rw [this]; rfl
  refine ⟨hA,fun i k e hk h2=>?_⟩
  obtain ⟨e1,hlt⟩:=nxt i e
  cases k with
  | zero=>
   rw [Nat.add_zero,hA i i e (Nat.le_refl _) h2,Nat.sub_self,List.take_zero,cons1_nil _ (sp_ne _ _ _)]
  | succ k=>
   rw [occ,sp,show i + (k + 1) = i + 1 + k by omega]
   exact ihB (i + 1) k e1 (by simpa using hk) (by omega)
theorem occ_short {y : W} : ∀ (r : W) (k i : Nat),r.length < y.length->occ y k i r = []
 | [],k,i,_=>by cases k <;> rfl
 | c::r,k + 1,i,h=>by rw [occ]; exact occ_short r k _ (by simp at h; omega)
 | c::r,0,i,h=>by
  rw [occ,if_neg]
  ·exact occ_short r 0 _ (by simp at h; omega)
  ·intro hp
   have:=(List.isPrefixOf_iff_prefix.mp hp).length_le
   omega
theorem split_is {l y : W} (hy : 0 < y.length) (hk : y.all (· < 256) = true) : Txt.split (S l) (S y) = (sp y 0 l).map S:=by
 have hl : (S l).length = l.length:=by show l.toArray.size = _; simp
 have hly : (S y).length = y.length:=by show y.toArray.size = _; simp
 have main : Builtin.Str.partsBetween (S l) (occ y 0 0 l) y.length = (sp y 0 l).map S:=by
  unfold Builtin.Str.partsBetween
  rw [hl]
  have:=parts_is (l:=l) (w:=y.length) (occ y 0 0 l) 0
  refine Eq.trans this ?_
  rw [(parts_sp hy l).1 0 0 rfl (Nat.le_refl _) (Nat.zero_le _)]
  rw [Nat.sub_self,List.take_zero,cons1_nil _ (sp_ne _ _ _)]
 have none : occ y 0 0 l = []->[S l] = (sp y 0 l).map S:=fun h=>by
  rw [<- main,h]
  unfold Builtin.Str.partsBetween
  rw [hl]
  have:=parts_is (l:=l) (w:=y.length) [] 0
  refine Eq.trans ?_ this.symm
  simp [parts]
 unfold Txt.split
 have k1 : Builtin.Str.strKind (S y) = 1:=by
  unfold Builtin.Str.strKind
  rw [if_pos]
  simpa using hk
 have k2 : 1 <= Builtin.Str.strKind (S l):=by unfold Builtin.Str.strKind; split <;> (try split) <;> decide
 split
 ·rename_i h
  rw [Bool.or_eq_true,decide_eq_true_eq,decide_eq_true_eq,hl,hly,k1] at h
  exact none (occ_short l 0 0 (by omega))
 ·rw [occ_is hy,hly]
  split
  ·rename_i h
   exact none (by simpa using h)
  ·exact main
def pt (y : W) : W->Option (W × W)
 | []=>none
 | c::r=>if y.isPrefixOf (c::r) = true then some ([],r.drop (y.length - 1)) else (pt y r).map fun p=>(c::p.1,p.2)
theorem pt_occ {l y : W} (hy : 0 < y.length) : ∀ (r : W) (i : Nat),l.drop i = r->(pt y r).map (fun p=>(l.take i++p.1,p.2)) = (occ y 0 i r).head?.map fun j=>(l.take j,l.drop (j + y.length))
 | [],i,_=>by simp [pt,occ]
 | c::r,i,e=>by
  have h1 : i < l.length:=by
   have:=congrArg List.length e
   simp at this; omega
  have e1 : l.drop (i + 1) = r:=by rw [<- List.drop_drop,e]; rfl
  rw [pt,occ]
  by_cases hp : y.isPrefixOf (c::r) = true
  ·rw [if_pos hp,if_pos hp]
   simp only [Option.map_some,List.head?_cons,List.append_nil]
   rw [<- e1,List.drop_drop,show i + 1 + (y.length - 1) = i + y.length by omega]
  ·rw [if_neg hp,if_neg hp,<- pt_occ hy r (i + 1) e1,Option.map_map]
   congr 1
   funext p
   simp only [Function.comp]
   have : l.take (i + 1) = l.take i++[c]:=by
    rw [List.take_succ]
    have : l[i]? = some c:=by
     have:=congrArg (·[0]?) e
     simpa using this
    rw [this]; rfl
   rw [this,List.append_assoc]; rfl
theorem part_is {l y : W} (hy : 0 < y.length) : partT (S l) (S y) = match pt y l with | some p=>[S p.1,S y,S p.2] | none=>[S l,S [],S []]:=by
 have hl : (S l).length = l.length:=by show l.toArray.size = _; simp
 have hly : (S y).length = y.length:=by show y.toArray.size = _; simp
 have key:=pt_occ (l:=l) (y:=y) hy l 0 rfl
 unfold partT
 rw [occ_first hy,hly,hl]
 cases ho : occ y 0 0 l with
 | nil=>
  rw [ho] at key
  cases hp : pt y l with
  | none=>rfl
  | some p=>rw [hp] at key; simp at key
 | cons j js=>
  rw [ho] at key
  cases hp : pt y l with
  | none=>rw [hp] at key; simp at key
  | some p=>
   rw [hp] at key
   simp only [Option.map_some,List.take_zero,List.nil_append,List.head?_cons,Option.some.injEq,Prod.mk.injEq] at key
   simp only [List.take_succ_cons,Builtin.Str.strSub,List.extract_toArray,List.extract_eq_drop_take,List.drop_zero,Nat.sub_zero]
   rw [key.1,key.2,List.take_of_length_le (l:=l.drop (j + y.length)) (by simp)]
theorem sl_big {n : Nat} (h : n <= 1000) : n <= sizeLine:=by rw [sizeLine_eq]; omega
theorem sl_lt {n : Nat} (h : n <= 1000) : n < sizeLine:=by rw [sizeLine_eq]; omega
def smallC (c : Nat) : Bool:=decide (97 <= c) && decide (c <= 122)
def bigC (c : Nat) : Bool:=decide (65 <= c) && decide (c <= 90)
def figC (c : Nat) : Bool:=decide (48 <= c) && decide (c <= 57)
def atomB : D->Bool | .int _=>true | .str z=>decide (1 <= z.length) && decide (z.length <= 100) | _=>false
abbrev Atom (d : D) : Prop:=atomB d = true
theorem Atom.flat {d : D} (h : Atom d) : flatD d = true:=by cases d <;> first | exact absurd h Bool.false_ne_true | rfl
theorem Atom.plain {n : Nat} {d : D} (h : Atom d) : plainN n d = true:=by cases d <;> cases n <;> first | exact absurd h Bool.false_ne_true | rfl
theorem all_plain {xs : List D} (h : ∀ x ∈ xs,Atom x) : xs.all (plainN 8) = true:=List.all_eq_true.mpr fun x hx=>(h x hx).plain
theorem eqV_atom {x y : D} (hx : Atom x) (hy : Atom y) : eqV (toV x) (toV y) = true ↔ x = y:=by
 cases x <;> first | exact absurd hx Bool.false_ne_true | (cases y <;> first | exact absurd hy Bool.false_ne_true | simp [toV,eqV])
theorem eqA_atom {x y : D} (hx : Atom x) (hy : Atom y) : eqA x y = true ↔ x = y:=by
 rw [eqA_flat hx.flat hy.flat]; exact eqV_atom hx hy
theorem inA_iff {t : D} {xs : List D} (ht : Atom t) (hx : ∀ x ∈ xs,Atom x) : inA t xs = true ↔ t ∈ xs:=by
 unfold inA
 rw [List.any_eq_true]
 constructor
 ·rintro ⟨x,hm,e⟩
  rw [<- (eqA_atom (hx x hm) ht).mp e]; exact hm
 ·intro hm
  exact ⟨t,hm,(eqA_atom ht ht).mpr rfl⟩
theorem o_inPT {n : Bool} {t : D} {xs : List D} {R : D->Prop} (ht : plainN 8 t = true) (hx : xs.all (plainN 8) = true) (k : R (.bl (if n then !inA t xs else inA t xs))) : Op (inE n t (.tup xs)) R:=by
 refine op_of ?_ k
 show (inAD n t (.tup xs)).or _ = _
 unfold inAD
 dsimp only
 rw [if_pos ⟨ht,hx⟩]
 rfl
theorem o_inT {t : D} {xs : List D} {R : D->Prop} (ht : Atom t) (hx : ∀ x ∈ xs,Atom x) (k : ∀ b : Bool,(b = true ↔ t ∈ xs)->R (.bl b)) : Op (inE false t (.tup xs)) R:=o_inPT ht.plain (all_plain hx) (k _ (inA_iff ht hx))
theorem rng_get {n k : Nat} (h : k < n) : (rngD 0 n)[k]? = some (.int (0 + (k : Int))):=by
 unfold rngD
 rw [List.getElem?_map,List.getElem?_range h]
 rfl
theorem rng_ix {n k : Nat} {x : D} (e : (rngD 0 n)[k]? = some x) : k < n /\ x = .int k:=by
 have hk : k < n:=by
  have:=(List.getElem?_eq_some_iff.mp e).1
  simpa [rngD] using this
 rw [rng_get hk] at e
 cases e
 exact ⟨hk,by rw [Int.zero_add]⟩
theorem rng_map (n : Nat) : rngD 0 n = (List.range n).map fun k : Nat=>D.int (k : Int):=by
 unfold rngD
 simp
theorem o_cond {A B : Prop} {p : Prop} [Decidable p] (h1 : p->A) (h2 : ¬ p->B) : if decide p = true then A else B:=by
 by_cases h : p
 ·rw [if_pos (decide_eq_true h)]; exact h1 h
 ·rw [if_neg (by rw [decide_eq_false h]; exact Bool.false_ne_true)]; exact h2 h
theorem o_cond' {A B : Prop} (b : Bool) (h1 : b = true->A) (h2 : b = false->B) : if b = true then A else B:=by
 cases b with
 | true=>exact h1 rfl
 | false=>exact h2 rfl
theorem o_ltI {i j : Int} {R : D->Prop} (k : R (.bl (decide (i < j)))) : Op (ltE (.int i) (.int j)) R:=op_of (by simp [ltE,plainN,ltA]) k
theorem e_cell (ns : List Int) (k : Nat) (hn : ns.length <= 63) (hk : k <= 63) : Op (M__law_cell [.lst (ns.map D.int),.int k]) fun r=>∃ c : Int,r = .sh (.int c):=by
 have mem : ∀ x ∈ ns.map D.int,∃ i : Int,x = .int i:=fun x hx=>let ⟨i,_,e⟩:=List.mem_map.mp hx; ⟨i,e.symm⟩
 unfold M__law_cell fb__law_cell
 walk_at "wrun"
 walk_at "wpn"
 refine so_mid (fun δ=>δ = [some (.sh (.lst (ns.map D.int))),some (.sh (.int k)),none]) ?_ ?_
 ·walk_at "wp"
  refine o_ltI ?_
  walk_at "wp"
  refine o_cond (fun h=>?_) fun h=>?_
  ·walk_at "wp"
   refine o_ixLm (by omega) h fun x hx=>?_
   obtain ⟨i,rfl⟩:=mem x hx
   walk_at "wp"
   exact ⟨i,rfl⟩
  ·walk_at "wp"
   rfl
 ·rintro δ rfl
  walk_at "wpn"
  refine so_mid (fun δ=>∃ m : Int,δ = [some (.sh (.lst (ns.map D.int))),some (.sh (.int k)),some (.sh (.int m))] /\ 0 <= m /\ m < 2 ^ 40) ?_ ?_
  ·walk_at "wp"
   refine o_cond (fun h=>?_) fun h=>?_
   ·walk_at "wp"
    try refine o_mod h ?_
    refine o_ixLm (Int.emod_nonneg _ (by omega)) (Int.emod_lt_of_pos _ h) fun x hx=>?_
    obtain ⟨i,rfl⟩:=mem x hx
    walk_at "wp"
    exact ⟨_,rfl,Int.emod_nonneg _ (by decide),Int.lt_trans (Int.emod_lt_of_pos _ (by decide)) (by decide)⟩
   ·walk_at "wp"
    exact ⟨_,rfl,by omega,by omega⟩
  ·rintro δ ⟨m,rfl,h0,h1⟩
   walk_at "wp"
   try refine o_mul (Or.inl ⟨by omega,by omega⟩) ?_
   walk_at "wp"
   exact ⟨_,rfl⟩
theorem e_stream (c : Int) (n : Nat) (hn : n <= 100) : Op (M__law_stream [.int c,.int n]) fun r=>∃ zs : List Int,r = .fr (.lst (zs.map D.int)) /\ zs.length = n:=by
 unfold M__law_stream fb__law_stream
 walk_at "wrun"
 walk_at "wp"
 refine ⟨Nat.zero_le _,?_⟩
 walk_at "wp"
 refine ⟨by omega,?_⟩
 rw [Int.toNat_natCast]
 refine so_forL (fun k δ=>∃ (zs : List Int) (m : Int) (x : Option Sl),δ = [some (.sh (.int c)),some (.sh (.int n)),some (.pv (.lst (zs.map D.int)) none),some (.sh (.int m)),x] /\ zs.length = k) ⟨[],_,_,rfl,rfl⟩ ?_ ?_
 ·rintro k x hk δ ⟨zs,m,y,rfl,hz⟩
  obtain ⟨hkn,rfl⟩:=rng_ix hk
  dsimp only [List.set]
  walk_at "wp"
  refine o_cond (fun h=>?_) fun h=>?_
  ·walk_at "wp"
   refine ⟨sl_lt (by rw [List.length_map]; omega),?_⟩
   walk_at "wp"
   exact ⟨zs++[_],_,_,by rw [List.map_append]; rfl,by simp [hz]⟩
  ·walk_at "wp"
   refine ⟨sl_lt (by rw [List.length_map]; omega),?_⟩
   walk_at "wp"
   exact ⟨zs++[_],_,_,by rw [List.map_append]; rfl,by simp [hz]⟩
 ·rintro δ ⟨zs,m,y,rfl,hz⟩
  walk_at "wp"
  exact ⟨zs,rfl,by rw [hz]; simp [rngD]⟩
theorem o_ixS {s : Str} {i : Int} {R : D->Prop} (hs : s.length <= 100) (h0 : 0 <= i) (h1 : i < s.length) (q : ∀ c ∈ s.cps.toList,R (.str ⟨#[c]⟩)) : Op (ixA (.str s) (.int i)) R:=by
 obtain ⟨n,rfl⟩ : ∃ n : Nat,i = n:=⟨i.toNat,by omega⟩
 have hn : n < s.cps.toList.length:=by rw [Array.length_toList]; exact Int.ofNat_lt.mp h1
 refine op_of (d:=.str ⟨#[s.cps.toList[n]]⟩) ?_ (q _ (List.getElem_mem hn))
 show (if s.length <= sizeLine then (atI s.cps.toList (n : Int)).map (fun c=>D.str ⟨#[c]⟩) else none) = _
 rw [if_pos (sl_big (by omega)),atI_nat (List.getElem?_eq_getElem hn)]
 rfl
theorem az_list : ("abcdefghijklmnopqrstuvwxyz" : Str).cps.toList = List.range' 97 26:=by decide +kernel
theorem az_small {c : Nat} (h : c ∈ ("abcdefghijklmnopqrstuvwxyz" : Str).cps.toList) : smallC c = true:=by
 rw [az_list,List.mem_range'_1] at h
 unfold smallC
 rw [Bool.and_eq_true,decide_eq_true_iff,decide_eq_true_iff]
 omega
theorem o_join {ls : List Nat} {R : D->Prop} (hl : ls.length <= 100) (k : R (.str ⟨ls.toArray⟩)) : Op (joinD (.str "") (.lst (ls.map fun c=>.str ⟨#[c]⟩))) R:=by
 refine op_of ?_ k
 have e : ∀ ls : List Nat,strsD (ls.map fun c=>D.str ⟨#[c]⟩) = some (ls.map fun c=>(⟨#[c]⟩ : Str)):=by
  intro ls
  induction ls with
  | nil=>rfl
  | cons c cs ih=>rw [List.map_cons]; unfold strsD; rw [ih]; rfl
 have s : ((ls.map fun c=>(⟨#[c]⟩ : Str)).map fun y=>y.length).sum = ls.length:=by
  clear hl k e
  induction ls with
  | nil=>rfl
  | cons c cs ih=>rw [List.map_cons,List.map_cons,List.sum_cons,ih,List.length_cons,Nat.add_comm]; rfl
 have z : ("" : Str) = ⟨#[]⟩:=by decide +kernel
 show (strsD _).bind _ = _
 rw [e,Option.bind_some,s,z,if_pos (by show ls.length + _ * 0 <= _; omega)]
 congr 2
 show Builtin.Str.glued ⟨#[]⟩ _ = _
 rw [StrLaws.glued_eq_join]
 exact join_ones ls
theorem list_exists {n : Nat} {ys : List D} (h : ∀ y ∈ ys,∃ c : Nat,y = .str ⟨#[c]⟩ /\ smallC c = true) : ∃ ls : List Nat,ys = ls.map (fun c=>D.str ⟨#[c]⟩) /\ ∀ c ∈ ls,smallC c = true:=by
 induction ys with
 | nil=>exact ⟨[],rfl,fun c h=>nomatch h⟩
 | cons y ys ih=>
  obtain ⟨ls,rfl,h2⟩:=ih fun z hz=>h z (List.mem_cons_of_mem _ hz)
  obtain ⟨c,rfl,hc⟩:=h y List.mem_cons_self
  exact ⟨c::ls,rfl,fun d hd=>(List.mem_cons.mp hd).elim (fun e=>e ▸ hc) (h2 d)⟩
theorem add_str {a b : Str} (h : a.length + b.length <= sizeLine) : addD (.str a) (.str b) = some (.str (a++b)):=by
 unfold addD sAdd iAdd
 simp only [Option.none_or,if_pos h]
 rfl
def jB : List W->W
 | []=>[]
 | [w]=>w
 | w::x::r=>w++32::jB (x::r)
def NB (ws : List W) : Prop:=∀ w ∈ ws,32 ∉ w
theorem NB.head {w : W} {ws : List W} (h : NB (w::ws)) : 32 ∉ w:=h w List.mem_cons_self
theorem NB.tail {w : W} {ws : List W} (h : NB (w::ws)) : NB ws:=fun x hx=>h x (List.mem_cons_of_mem _ hx)
theorem pre1 {c : Nat} {r : W} : [32].isPrefixOf (c::r) = (32 == c):=by simp [List.isPrefixOf]
theorem sp_word : ∀ {w : W} {r : W},32 ∉ w->sp [32] 0 (w++r) = cons1 w (sp [32] 0 r)
 | [],r,_=>by rw [List.nil_append,cons1_nil _ (sp_ne _ _ _)]
 | c::w,r,h=>by
  have hc : ¬ (32 == c) = true:=by intro e; exact h (by rw [beq_iff_eq.mp e]; exact List.mem_cons_self)
  rw [List.cons_append,sp,pre1,if_neg hc,sp_word fun x=>h (List.mem_cons_of_mem _ x),cons1_cons1]
  rfl
theorem sp_one {w : W} (h : 32 ∉ w) : sp [32] 0 w = [w]:=by
 have:=sp_word (w:=w) (r:=[]) h
 rw [List.append_nil] at this
 rw [this]; simp [sp,cons1]
theorem sp_jB : ∀ {ws : List W},ws ≠ []->NB ws->sp [32] 0 (jB ws) = ws
 | [w],_,h=>sp_one h.head
 | w::x::r,_,h=>by
  rw [jB,sp_word h.head,sp,pre1,if_pos (by rfl)]
  rw [show ([32] : W).length - 1 = 0 from rfl,sp_jB (by simp) h.tail]
  simp [cons1]
def yIf : W:=[32,105,102,32]
def wIf : W:=[105,102]
def ptW : List W->Option (List W × List W)
 | []=>none
 | [_]=>none
 | w::x::r=>if x = wIf /\ r ≠ [] then some ([w],r) else (ptW (x::r)).map fun p=>(w::p.1,p.2)
theorem pt_word : ∀ {w r : W},32 ∉ w->pt yIf (w++r) = (pt yIf r).map fun p=>(w++p.1,p.2)
 | [],r,_=>by simp
 | c::w,r,h=>by
  have hc : ¬ yIf.isPrefixOf (c::(w++r)) = true:=by
   intro e
   have : (32 == c && [105,102,32].isPrefixOf (w++r)) = true:=e
   rw [Bool.and_eq_true] at this
   exact h (by rw [beq_iff_eq.mp this.1]; exact List.mem_cons_self)
  rw [List.cons_append,pt,if_neg hc,pt_word fun x=>h (List.mem_cons_of_mem _ x),Option.map_map]
  rfl
theorem if_pre {x : W} {r : List W} (h : 32 ∉ x) : [105,102,32].isPrefixOf (jB (x::r)) = true ↔ x = wIf /\ r ≠ []:=by
 have shape : jB (x::r) = x++(match r with | []=>[] | _::_=>32::jB r):=by cases r <;> simp [jB]
 rw [shape]
 constructor
 ·intro e
  match x,h with
  | [],_=>cases r <;> simp [List.isPrefixOf] at e
  | [a],_=>cases r <;> simp [List.isPrefixOf] at e
  | [a,b],_=>
   cases r with
   | nil=>simp [List.isPrefixOf] at e
   | cons y r=>simp [List.isPrefixOf] at e; exact ⟨by rw [<- e.1,<- e.2]; rfl,by simp⟩
  | a::b::c::x,h=>
   simp [List.isPrefixOf] at e
   exact absurd (by rw [<- e.2.2]; simp) h
 ·rintro ⟨rfl,hr⟩
  cases r with
  | nil=>exact absurd rfl hr
  | cons y r=>simp [wIf,List.isPrefixOf]
theorem ptW_ne : ∀ {ws : List W} {p : List W × List W},ptW ws = some p->p.1 ≠ [] /\ p.2 ≠ []
 | [],_,h=>by simp [ptW] at h
 | [_],_,h=>by simp [ptW] at h
 | w::x::r,p,h=>by
  rw [ptW] at h
  split at h
  ·rename_i c; cases h; exact ⟨by simp,c.2⟩
  ·obtain ⟨q,e,rfl⟩:=omE h
   exact ⟨by simp,(ptW_ne e).2⟩
theorem pt_jB : ∀ {ws : List W},ws ≠ []->NB ws->pt yIf (jB ws) = (ptW ws).map fun p=>(jB p.1,jB p.2)
 | [w],_,h=>by
  have:=pt_word (w:=w) (r:=[]) h.head
  rw [List.append_nil] at this
  rw [jB,this]; simp [pt,ptW]
 | w::x::r,_,h=>by
  rw [jB,pt_word h.head,pt,ptW]
  have e : yIf.isPrefixOf (32::jB (x::r)) = [105,102,32].isPrefixOf (jB (x::r)):=by
   show (32 == 32 && [105,102,32].isPrefixOf (jB (x::r))) = _
   simp
  by_cases c : x = wIf /\ r ≠ []
  ·rw [e,if_pos ((if_pre h.tail.head).mpr c),if_pos c]
   obtain ⟨rfl,hr⟩:=c
   simp only [Option.map_some]
   cases r with
   | nil=>exact absurd rfl hr
   | cons y r=>simp [jB,wIf,yIf]
  ·rw [e,if_neg (fun z=>c ((if_pre h.tail.head).mp z)),if_neg c,pt_jB (by simp) h.tail,Option.map_map,Option.map_map,Option.map_map]
   cases hp : ptW (x::r) with
   | none=>rfl
   | some p=>
    have:=(ptW_ne hp).1
    simp only [Option.map_some,Function.comp]
    cases e1 : p.1 with
    | nil=>exact absurd e1 this
    | cons u us=>simp [jB]
def yCo : W:=[44,32]
def consL (w : W) : List (List W)->List (List W) | p::ps=>(w::p)::ps | []=>[[w]]
def bpW : List W->List (List W)
 | []=>[[]]
 | [w]=>[[w]]
 | w::x::r=>if w.getLast? = some 44 then [w.dropLast]::bpW (x::r) else consL w (bpW (x::r))
theorem co_word : ∀ {w r : W},32 ∉ w->sp yCo 0 (w++32::r) = if w.getLast? = some 44 then w.dropLast::sp yCo 0 r else cons1 (w++[32]) (sp yCo 0 r)
 | [],r,_=>by
  rw [List.nil_append,sp,if_neg (by simp [yCo,List.isPrefixOf])]
  simp
 | [c],r,h=>by
  rw [List.cons_append,sp]
  by_cases hc : c = 44
  ·subst hc
   rw [if_pos (by simp [yCo,List.isPrefixOf])]
   simp [yCo,sp]
  ·rw [if_neg (by simp [yCo,List.isPrefixOf]; omega),if_neg (by simp; exact hc),List.nil_append,sp,if_neg (by simp [yCo,List.isPrefixOf]),cons1_cons1]
 | c::d::w,r,h=>by
  have hd : d ≠ 32:=fun e=>h (by rw [e]; simp)
  rw [List.cons_append,sp,if_neg (by simp [yCo,List.isPrefixOf]; intro _ e; exact hd e.symm),co_word (w:=d::w) fun x=>h (List.mem_cons_of_mem _ x)]
  rw [show (c::d::w).getLast? = (d::w).getLast? from by simp]
  split
  ·simp [cons1]
  ·rw [cons1_cons1]; rfl
theorem co_last : ∀ {w : W},32 ∉ w->sp yCo 0 w = [w]
 | [],_=>by simp [sp]
 | [c],h=>by rw [sp,if_neg (by simp [yCo,List.isPrefixOf])]; simp [sp,cons1]
 | c::d::w,h=>by
  have hd : d ≠ 32:=fun e=>h (by rw [e]; simp)
  rw [sp,if_neg (by simp [yCo,List.isPrefixOf]; intro _ e; exact hd e.symm),co_last (w:=d::w) fun x=>h (List.mem_cons_of_mem _ x)]
  rfl
theorem bpW_ne : ∀ {ws : List W},ws ≠ []->bpW ws ≠ [] /\ ∀ p ∈ bpW ws,p ≠ []
 | [w],_=>by simp [bpW]
 | w::x::r,_=>by
  obtain ⟨h1,h2⟩:=bpW_ne (ws:=x::r) (by simp)
  rw [bpW]
  split
  ·exact ⟨by simp,fun p hp=>(List.mem_cons.mp hp).elim (fun e=>by rw [e]; simp) (h2 p)⟩
  ·cases e : bpW (x::r) with
   | nil=>exact absurd e h1
   | cons q qs=>
    refine ⟨by simp [consL],fun p hp=>?_⟩
    rcases List.mem_cons.mp hp with rfl | hp
    ·simp
    ·exact h2 p (by rw [e]; exact List.mem_cons_of_mem _ hp)
theorem bpW_nb : ∀ {ws : List W},NB ws->∀ p ∈ bpW ws,NB p
 | [],_=>by intro p hp; simp [bpW] at hp; subst hp; intro w hw; cases hw
 | [w],h=>by intro p hp; simp [bpW] at hp; subst hp; exact h
 | w::x::r,h=>by
  have ih:=bpW_nb h.tail
  intro p hp
  rw [bpW] at hp
  split at hp
  ·rcases List.mem_cons.mp hp with rfl | hp
   ·intro u hu
    rw [List.mem_singleton.mp hu]
    exact fun z=>h.head (List.dropLast_subset _ z)
   ·exact ih p hp
  ·cases e : bpW (x::r) with
   | nil=>rw [e] at hp; simp [consL] at hp; subst hp; intro u hu; rw [List.mem_singleton.mp hu]; exact h.head
   | cons q qs=>
    rw [e] at hp
    rcases List.mem_cons.mp hp with rfl | hp
    ·intro u hu
     rcases List.mem_cons.mp hu with rfl | hu
     ·exact h.head
     ·exact ih q (by rw [e]; exact List.mem_cons_self) u hu
    ·exact ih p (by rw [e]; exact List.mem_cons_of_mem _ hp)
theorem co_jB : ∀ {ws : List W},ws ≠ []->NB ws->sp yCo 0 (jB ws) = (bpW ws).map jB
 | [w],_,h=>by rw [jB,co_last h.head]; rfl
 | w::x::r,_,h=>by
  rw [jB,co_word h.head,bpW,co_jB (by simp) h.tail]
  split
  ·simp [jB]
  ·cases e : bpW (x::r) with
   | nil=>exact absurd e (bpW_ne (by simp)).1
   | cons q qs=>
    have:=(bpW_ne (ws:=x::r) (by simp)).2 q (by rw [e]; exact List.mem_cons_self)
    cases q with
    | nil=>exact absurd rfl this
    | cons u us=>simp [consL,cons1,jB]
theorem one_lt (a b : Nat) : decide ([a] < [b]) = decide (a < b):=by
 by_cases h : a < b
 ·rw [decide_eq_true h,decide_eq_true]
  exact List.Lex.rel h
 ·rw [decide_eq_false h,decide_eq_false]
  intro z
  cases z with
  | rel q=>exact h q
  | cons q=>cases q
theorem leC (a : Str) (x c : Nat) (ha : a.cps.toList = [x]) : leD (.str a) (.str ⟨#[c]⟩) = some (.bl (decide (x <= c))):=by
 show some (D.bl (!decide ((⟨#[c]⟩ : Str).cps.toList < a.cps.toList))) = _
 rw [ha]
 show some (D.bl (!decide ([c] < [x]))) = _
 rw [one_lt]
 by_cases h : c < x
 ·simp [h,Nat.not_le.mpr h]
 ·simp [h,Nat.not_lt.mp h]
theorem leC' (a : Str) (x c : Nat) (ha : a.cps.toList = [x]) : leD (.str ⟨#[c]⟩) (.str a) = some (.bl (decide (c <= x))):=by
 show some (D.bl (!decide (a.cps.toList < (⟨#[c]⟩ : Str).cps.toList))) = _
 rw [ha]
 show some (D.bl (!decide ([x] < [c]))) = _
 rw [one_lt]
 by_cases h : x < c
 ·simp [h,Nat.not_le.mpr h]
 ·simp [h,Nat.not_lt.mp h]
theorem chain_c {R : D->Prop} {f : FE} {δ : En} (a b : Str) (x y c : Nat) (ha : a.cps.toList = [x]) (hb : b.cps.toList = [y]) (hf : f δ = some (.str ⟨#[c]⟩)) (k : R (.bl (decide (x <= c) && decide (c <= y)))) :
  Op (f3 leD leD (fC (.str a)) f (fC (.str b)) δ) R:=by
 refine op_of ?_ k
 simp only [f3,fC,hf,Option.bind_some,leC a x c ha]
 cases decide (x <= c) with
 | false=>rfl
 | true=>simp only [leC' b y c hb,Bool.true_and]
theorem e_small (c : Nat) : M_is_small [.str ⟨#[c]⟩] = some (.sh (.bl (smallC c))):=by
 refine Op.eq ?_
 unfold M_is_small fb_is_small
 walk_at "wrun"
 refine so_seq (so_ret (op_sh (chain_c _ _ 97 122 c (by decide +kernel) (by decide +kernel) rfl ?_)))
 rfl
theorem e_big (c : Nat) : M_is_big [.str ⟨#[c]⟩] = some (.sh (.bl (bigC c))):=by
 refine Op.eq ?_
 unfold M_is_big fb_is_big
 walk_at "wrun"
 refine so_seq (so_ret (op_sh (chain_c _ _ 65 90 c (by decide +kernel) (by decide +kernel) rfl ?_)))
 rfl
theorem e_fig (c : Nat) : M_is_figure [.str ⟨#[c]⟩] = some (.sh (.bl (figC c))):=by
 refine Op.eq ?_
 unfold M_is_figure fb_is_figure
 walk_at "wrun"
 refine so_seq (so_ret (op_sh (chain_c _ _ 48 57 c (by decide +kernel) (by decide +kernel) rfl ?_)))
 rfl
theorem S_len {w : W} : (S w).length = w.length:=by show w.toArray.size = _; simp
theorem len_S {w : W} {R : D->Prop} (h : w.length <= 1000) (k : R (.int w.length)) : Op (lenD [.str (S w)]) R:=by
 refine op_of ?_ k
 show (if (S w).length <= sizeLine then some (D.int (S w).length) else none) = _
 rw [if_pos (by rw [S_len]; exact sl_big h),S_len]
def shB (w : W) : Bool:=decide (1 <= w.length) && decide (w.length <= 8)
theorem e_short {w : W} (h : w.length <= 1000) : M_is_short_text [.str (S w)] = some (.sh (.bl (shB w))):=by
 refine Op.eq ?_
 unfold M_is_short_text fb_is_short_text
 walk_at "wrun"
 walk_at "wp"
 refine ⟨rfl,?_⟩
 walk_at "wp"
 refine len_S h ?_
 walk_at "wp"
 unfold shB
 refine o_cond (fun c=>?_) fun c=>?_
 ·walk_at "wp"
  rw [decide_eq_true (show 1 <= w.length by omega)]
  have : decide ((w.length : Int) <= 8) = decide (w.length <= 8):=decide_eq_decide.mpr (by omega)
  refine op_of (d:=.bl (decide ((w.length : Int) <= 8))) rfl ?_
  rw [this]; rfl
 ·walk_at "wp"
  rw [decide_eq_false (show ¬ 1 <= w.length by omega)]
  rfl
theorem signs_S (w : W) : L2.signs (S w) = w.map fun c=>D.str ⟨#[c]⟩:=by
 unfold L2.signs
 rfl
theorem all_map {α : Type} (p : α->Bool) (xs : List α) {R : D->Prop} (k : R (.bl (xs.all p))) : Op (allD [.lst (xs.map fun x=>.bl (p x))]) R:=by
 refine op_of ?_ k
 show (bools (xs.map fun x=>D.bl (p x))).map (fun bs=>D.bl (bs.all id)) = _
 rw [bools_map,Option.map_some,List.all_map]
 rfl
def kws : List W:=[[110,111,116],[105,102],[117,110,100,101,114],[117,110,108,105,107,101],[115,117,109],[108,101,97,115,116],[99,111,117,110,116]]
theorem words_is : g_WORDS = .tup (kws.map fun k=>.str (S k)):=by
 unfold g_WORDS kws
 simp only [List.map_cons,List.map_nil]
 rfl
theorem S_inj {v w : W} : S v = S w ↔ v = w:=⟨fun h=>by have:=congrArg (fun z : Str=>z.cps.toList) h; simpa using this,fun h=>by rw [h]⟩
theorem mem_S {w : W} {ks : List W} : D.str (S w) ∈ (ks.map fun k=>D.str (S k)) ↔ w ∈ ks:=by
 rw [List.mem_map]
 constructor
 ·rintro ⟨k,hk,e⟩
  have e:=D.str.inj e
  rw [<- S_inj.mp e]; exact hk
 ·intro h; exact ⟨w,h,rfl⟩
theorem atom_S {w : W} (h1 : 1 <= w.length) (h2 : w.length <= 100) : Atom (.str (S w)):=by
 show (decide (1 <= (S w).length) && decide ((S w).length <= 100)) = true
 rw [S_len,decide_eq_true h1,decide_eq_true h2]; rfl
def nmB (w : W) : Bool:=shB w && (!decide (w ∈ kws)) && w.all smallC
theorem kws_atom : ∀ x ∈ (kws.map fun k=>D.str (S k)),Atom x:=by
 intro x hx
 obtain ⟨k,hk,rfl⟩:=List.mem_map.mp hx
 have : ∀ k ∈ kws,1 <= k.length /\ k.length <= 100:=by decide
 exact atom_S (this k hk).1 (this k hk).2
theorem shB_iff {w : W} : shB w = true ↔ 1 <= w.length /\ w.length <= 8:=by unfold shB; rw [Bool.and_eq_true,decide_eq_true_iff,decide_eq_true_iff]
theorem e_name {w : W} (h : w.length <= 1000) : M_is_name [.str (S w)] = some (.sh (.bl (nmB w))):=by
 refine Op.eq ?_
 unfold M_is_name fb_is_name
 walk_at "wrun"
 walk_at "wp"
 refine op_of (e_short h) ?_
 walk_at "wp"
 unfold nmB
 cases hs : shB w with
 | false=>walk_at "wp"; rfl
 | true=>
  obtain ⟨h1,h2⟩:=shB_iff.mp hs
  walk_at "wp"
  rw [words_is]
  refine o_inT (atom_S h1 (by omega)) kws_atom fun b hb=>?_
  rw [mem_S] at hb
  walk_at "wp"
  have eb : b = decide (w ∈ kws):=by
   by_cases c : w ∈ kws
   ·rw [decide_eq_true c]; exact hb.mpr c
   ·rw [decide_eq_false c]; cases b with | false=>rfl | true=>exact absurd (hb.mp rfl) c
  rw [<- eb]
  cases b with
  | true=>walk_at "wp"; rfl
  | false=>
   walk_at "wp"
   rw [signs_S]
   refine ⟨sl_big (by rw [List.length_map]; omega),op_compY (hh:=fun c=>.bl (smallC c)) (fun c _=>?_) ?_⟩
   ·walk_at "wp"
    refine op_of (e_small c) ?_
    walk_at "wp"
    rfl
   ·walk_at "wp"
    refine all_map smallC w ?_
    rfl
def anC (c : Nat) : Bool:=smallC c || (bigC c || figC c)
def hdB : W->Bool | []=>false | c::_=>bigC c
def vrB (w : W) : Bool:=shB w && hdB w && w.all anC
theorem ix_S {c : Nat} {w : W} {R : D->Prop} (h : w.length <= 100) (k : R (.str ⟨#[c]⟩)) : Op (ixA (.str (S (c::w))) (.int 0)) R:=by
 refine op_of ?_ k
 have e : (S (c::w)).cps.toList = c::w:=by simp
 show ixD (.str (S (c::w))) (.int 0) = _
 simp [ixD,atI,ixN]
 exact sl_big (by rw [S_len]; simp; omega)
theorem e_var {w : W} (h : w.length <= 1000) : M_is_variable [.str (S w)] = some (.sh (.bl (vrB w))):=by
 refine Op.eq ?_
 unfold M_is_variable fb_is_variable
 walk_at "wrun"
 walk_at "wp"
 refine op_of (e_short h) ?_
 walk_at "wp"
 unfold vrB
 cases hs : shB w with
 | false=>walk_at "wp"; rfl
 | true=>
  obtain ⟨h1,h2⟩:=shB_iff.mp hs
  walk_at "wp"
  cases w with
  | nil=>simp at h1
  | cons c w=>
   refine ix_S (by simp at h2; omega) ?_
   walk_at "wp"
   refine op_of (e_big c) ?_
   walk_at "wp"
   rw [show hdB (c::w) = bigC c from rfl]
   cases bigC c with
   | false=>walk_at "wp"; rfl
   | true=>
    walk_at "wp"
    rw [signs_S]
    refine ⟨sl_big (by rw [List.length_map]; omega),op_compY (hh:=fun c=>.bl (anC c)) (fun c _=>?_) ?_⟩
    ·walk_at "wp"
     refine op_of (e_small c) ?_
     walk_at "wp"
     unfold anC
     cases smallC c with
     | true=>walk_at "wp"; rfl
     | false=>
      walk_at "wp"
      refine op_of (e_big c) ?_
      walk_at "wp"
      cases bigC c with
      | true=>walk_at "wp"; rfl
      | false=>
       walk_at "wp"
       refine op_of (e_fig c) ?_
       walk_at "wp"
       rfl
    ·walk_at "wp"
     refine all_map anC _ ?_
     rfl
theorem pick_range {l : W} : ∀ (k a : Nat),a + k <= l.length->(List.range' a k).filterMap (fun i=>(S l).cps[i]?) = (l.drop a).take k
 | 0,a,_=>by simp
 | k + 1,a,h=>by
  have ha : a < l.length:=by omega
  rw [List.range'_succ,List.filterMap_cons,List.drop_eq_getElem_cons ha,List.take_succ_cons]
  have : (S l).cps[a]? = some l[a]:=by simp [ha]
  rw [this]
  dsimp only
  rw [pick_range k (a + 1) (by omega)]
theorem sr_is {a b : Nat} : sliceRange (a : Int) (b : Int) 1 = List.range' a (b - a):=by
 unfold sliceRange
 have c : ((if (1 : Int) > 0 then (if (a : Int) < (b : Int) then ((b : Int) - a + 1 - 1) / 1 else 0) else (if (a : Int) > b then ((a : Int) - b - 1 - 1) / (-1) else 0)) : Int).toNat = b - a:=by
  rw [if_pos (by decide)]
  split <;> simp <;> omega
 dsimp only
 rw [c,List.range'_eq_map_range]
 apply List.map_congr_left
 intro k _
 omega
theorem ind_drop {n i : Nat} (h : i <= n) : Builtin.Str.strSliceIndices (some (i : Int)) none 1 n = List.range' i (n - i):=by
 have e : Builtin.Str.strSliceIndices (some (i : Int)) none 1 n = sliceRange (max 0 (min (if (i : Int) < 0 then (i : Int) + n else i) n)) n 1:=rfl
 rw [e,if_neg (show ¬ (i : Int) < 0 by omega),show max 0 (min (i : Int) (n : Int)) = i by omega,sr_is]
theorem ind_take {n j : Nat} (h : j <= n) : Builtin.Str.strSliceIndices none (some (j : Int)) 1 n = List.range' 0 j:=by
 have e : Builtin.Str.strSliceIndices none (some (j : Int)) 1 n = sliceRange ((0 : Nat) : Int) (max 0 (min (if (j : Int) < 0 then (j : Int) + n else j) n)) 1:=rfl
 rw [e,if_neg (show ¬ (j : Int) < 0 by omega),show max 0 (min (j : Int) (n : Int)) = j by omega,sr_is,Nat.sub_zero]
theorem slice_drop {l : W} {i : Nat} (h : i <= l.length) : Txt.slice (S l) (some (i : Int)) none = S (l.drop i):=by
 unfold Txt.slice
 rw [S_len,ind_drop h]
 split
 ·rename_i c
  have : l.length - i = l.length:=by simpa using c
  by_cases hi : i = 0
  ·subst hi; rfl
  ·have : l = []:=List.eq_nil_of_length_eq_zero (by omega)
   subst this; simp
 ·rw [pick_range _ _ (by omega),List.take_of_length_le (by simp)]
theorem slice_take {l : W} {j : Nat} (h : j <= l.length) : Txt.slice (S l) none (some (j : Int)) = S (l.take j):=by
 unfold Txt.slice
 rw [S_len,ind_take h]
 split
 ·rename_i c
  have : j = l.length:=by simpa using c
  rw [this,List.take_length]
 ·rw [pick_range _ _ (by omega),List.drop_zero]
def figs : W->W | 45::r=>r | w=>w
def numB (w : W) : Bool:=(decide (1 <= (figs w).length) && decide ((figs w).length <= 30)) && (figs w).all figC && (!((figs w).head? == some 48) || w == [48])
theorem starts_S {w : W} {R : D->Prop} (k : R (.bl (w.head? == some 45))) : Op (startsD (.str (S w)) (.str "-")) R:=by
 refine op_of ?_ k
 show some (D.bl (Txt.startswith (S w) "-")) = _
 congr 2
 have hm : ("-" : Str) = S [45]:=by decide +kernel
 rw [hm]
 unfold Txt.startswith Builtin.Str.subAt
 cases w with
 | nil=>rfl
 | cons c w=>
  have e : (S (c::w)).cps.extract 0 (0 + (S [45]).length) = #[c]:=by
   show (c::w).toArray.extract 0 1 = _
   simp [List.extract_toArray,List.extract_eq_drop_take]
  rw [e,S_len,S_len]
  have : decide (0 + ([45] : W).length <= (c::w).length) = true:=decide_eq_true (by simp)
  rw [this,Bool.true_and]
  show (#[c] == #[45]) = _
  by_cases h : c = 45
  ·subst h; rfl
  ·have h1 : (#[c] == #[45]) = false:=by simpa using h
   have h2 : ((c::w).head? == some 45) = false:=by simpa using h
   rw [h1,h2]
theorem eqS {v w : W} {R : D->Prop} (k : R (.bl (decide (v = w)))) : Op (eqO false (.str (S v)) (.str (S w))) R:=by
 refine op_of ?_ k
 show some (D.bl (decide (V.str (S v) = V.str (S w)))) = _
 congr 2
 exact decide_eq_decide.mpr ⟨fun h=>S_inj.mp (V.str.inj h),fun h=>by rw [h]⟩
theorem neS {v w : W} {R : D->Prop} (k : R (.bl (!decide (v = w)))) : Op (neE (.str (S v)) (.str (S w))) R:=by
 refine o_neE ?_
 refine op_of ?_ k
 show some (D.bl (!decide (V.str (S v) = V.str (S w)))) = _
 congr 3
 exact decide_eq_decide.mpr ⟨fun h=>S_inj.mp (V.str.inj h),fun h=>by rw [h]⟩
theorem op_slS {f : FE} {l h : En->Option (Option Int)} {δ : En} {R : D->Prop} (k : Op (f δ) fun x=>Op (l δ) fun lo=>Op (h δ) fun hi=>∃ z,x = .str z /\ z.length <= sizeLine /\ R (.str (Txt.slice z lo hi))) : Op (fSlS f l h δ) R:=by
 obtain ⟨x,e1,lo,e2,hi,e3,z,rfl,hz,k⟩:=k
 exact ⟨_,by unfold fSlS; rw [e1,Option.bind_some,e2,Option.bind_some,e3,Option.bind_some]; dsimp only; rw [if_pos hz],k⟩
theorem e_num {w : W} (h : w.length <= 1000) : M_is_numeral [.str (S w)] = some (.sh (.bl (numB w))):=by
 refine Op.eq ?_
 unfold M_is_numeral fb_is_numeral
 walk_at "wrun"
 walk_at "wpn"
 refine starts_S ?_
 walk_at "wpn"
 have fl : (figs w).length <= w.length:=by unfold figs; split <;> simp
 have setF : ∀ {R : D->Prop},R (.str (S (figs w)))->(if (w.head? == some 45) = true then Op (fSlS (fVarB 0) (oInt (fC (.int 1))) (fun _=>some none) [some (.sh (.str (S w))),none]) R else Op (fVar 0 [some (.sh (.str (S w))),none]) R):=by
  intro R k
  cases w with
  | nil=>walk_at "wp"; exact k
  | cons c w=>
   by_cases hc : c = 45
   ·subst hc
    rw [if_pos (by simp)]
    refine op_slS ?_
    walk_at "wp"
    refine ⟨_,rfl,by rw [S_len]; exact sl_big (by omega),?_⟩
    have:=slice_drop (l:=45::w) (i:=1) (by simp)
    rw [show ((1 : Nat) : Int) = 1 from rfl] at this
    rw [this]
    exact k
   ·rw [if_neg (by simpa using hc)]
    walk_at "wp"
    have : figs (c::w) = c::w:=by
     unfold figs
     split
     ·rename_i e; cases e; exact absurd rfl hc
     ·rfl
    rw [this] at k
    exact k
 refine setF ?_
 walk_at "wp"
 refine len_S (by omega) ?_
 walk_at "wp"
 unfold numB
 generalize hF : figs w = F at *
 refine o_cond (fun c=>?_) fun c=>?_
 ·rw [decide_eq_true (show 1 <= F.length by omega)]
  walk_at "wp"
  refine op_of (d:=.bl (decide (F.length <= 30))) (by show some (D.bl (decide ((F.length : Int) <= 30))) = _; congr 2; exact decide_eq_decide.mpr (by omega)) ?_
  walk_at "wp"
  cases h30 : decide (F.length <= 30) with
  | false=>walk_at "wp"; rfl
  | true=>
   walk_at "wp"
   rw [signs_S]
   refine ⟨sl_big (by rw [List.length_map]; omega),op_compY (hh:=fun c=>.bl (figC c)) (fun c _=>?_) ?_⟩
   ·walk_at "wp"
    refine op_of (e_fig c) ?_
    walk_at "wp"
    rfl
   ·walk_at "wp"
    refine all_map figC _ ?_
    walk_at "wp"
    cases F.all figC with
    | false=>walk_at "wp"; rfl
    | true=>
     walk_at "wp"
     cases F with
     | nil=>simp at c
     | cons d F=>
      refine ix_S (by have:=of_decide_eq_true h30; simp at this; omega) ?_
      walk_at "wp"
      have z0 : ("0" : Str) = S [48]:=by decide +kernel
      rw [z0]
      refine neS (v:=[d]) ?_
      walk_at "wp"
      have e1 : decide ([d] = [48]) = ((d::F).head? == some 48):=by
       by_cases hd : d = 48
       ·subst hd; rfl
       ·rw [decide_eq_false (by simpa using hd)]; symm; simpa using hd
      rw [e1]
      cases ((d::F).head? == some 48) with
      | false=>walk_at "wp"; rfl
      | true=>
       walk_at "wp"
       refine eqS ?_
       have : decide (w = [48]) = (w == [48]):=by by_cases q : w = [48] <;> simp [q]
       rw [this]
       rfl
 ·rw [decide_eq_false (show ¬ 1 <= F.length by omega)]
  walk_at "wp"
  rfl
open PySem.NumText (digitsVal AllDigits)
def nv : W->Int | 45::r=>-((digitsVal r : Nat) : Int) | w=>((digitsVal w : Nat) : Int)
theorem figs_all {w : W} (h : w.all figC = true) : AllDigits w:=fun c hc=>by
 have:=List.all_eq_true.mp h c hc
 unfold figC at this
 rw [Bool.and_eq_true,decide_eq_true_iff,decide_eq_true_iff] at this
 exact this
theorem num_int {w : W} (h : numB w = true) : intT [.str (S w)] = some (.int (nv w)):=by
 unfold numB at h
 rw [Bool.and_eq_true,Bool.and_eq_true,Bool.and_eq_true,decide_eq_true_iff,decide_eq_true_iff] at h
 obtain ⟨⟨⟨h1,h2⟩,h3⟩,_⟩:=h
 have hd:=figs_all h3
 have e : (S w).cps.toList = w:=by simp
 have go : ∀ {n : Int},w.length <= 31->intText? (S w) = some n->intT [.str (S w)] = some (.int n):=fun hl e=>by
  show (if (S w).length <= 640 then (intText? (S w)).map D.int else none) = _
  rw [if_pos (by rw [S_len]; omega),e]; rfl
 have ne : figs w ≠ []:=fun e=>by rw [e] at h1; simp at h1
 by_cases hm : ∃ r,w = 45::r
 ·obtain ⟨r,rfl⟩:=hm
  have hf : figs (45::r) = r:=rfl
  rw [hf] at h1 h2 hd ne
  refine go (by simp; omega) (intText_neg (cs:=r) e hd ne (by rw [S_len]; simp; omega))
 ·have hf : figs w = w:=by
   unfold figs
   split
   ·exact absurd ⟨_,rfl⟩ hm
   ·rfl
  have hn : nv w = ((digitsVal w : Nat) : Int):=by
   unfold nv
   split
   ·exact absurd ⟨_,rfl⟩ hm
   ·rfl
  rw [hf] at h1 h2 hd ne
  rw [hn]
  have:=intText_digits (x:=S w) (by rw [e]; exact hd) (by rw [e]; exact ne) (by rw [S_len]; omega)
  rw [e] at this
  exact go (by omega) this
def rt (w : W) : D:=if numB w = true then .int (nv w) else .str (S w)
def sD (w : W) : D:=.str (S w)
def LB (ws : List W) : Prop:=ws.length <= 100 /\ ∀ w ∈ ws,w.length <= 100
theorem LB.sub {ws vs : List W} (h : LB ws) (h1 : vs.length <= ws.length) (h2 : ∀ v ∈ vs,v ∈ ws) : LB vs:=⟨Nat.le_trans h1 h.1,fun v hv=>h.2 v (h2 v hv)⟩
theorem e_terms {ws : List W} (h : LB ws) : M_read_terms [.lst (ws.map sD)] = some (.sh (.tup (ws.map rt))):=by
 refine Op.eq ?_
 unfold M_read_terms fb_read_terms
 walk_at "wrun"
 walk_at "wp"
 refine ⟨sl_big (by rw [List.length_map]; exact Nat.le_trans h.1 (by decide)),op_compY (k:=sD) (hh:=rt) (fun w hw=>?_) ?_⟩
 ·walk_at "wp"
  refine op_of (e_num (w:=w) (Nat.le_trans (h.2 w hw) (by decide))) ?_
  walk_at "wp"
  unfold rt
  cases hn : numB w with
  | true=>
   walk_at "wp"
   refine op_of (num_int hn) ?_
   rfl
  | false=>walk_at "wp"; rfl
 ·walk_at "wp"
  rfl
theorem e_whole_S {w : W} : M_is_whole [.str (S w)] = some (.sh (.bl false)):=by kernel_rfl
def cnB (w : W) : Bool:=numB w || nmB w
def tmB (w : W) : Bool:=numB w || (nmB w || vrB w)
theorem e_const_S {w : W} (h : w.length <= 100) : M_is_constant [.str (S w)] = some (.sh (.bl (nmB w))):=by
 refine Op.eq ?_
 unfold M_is_constant fb_is_constant
 walk_at "wrun"
 walk_at "wp"
 refine op_of e_whole_S ?_
 walk_at "wp"
 refine op_of (e_name (Nat.le_trans h (by decide))) ?_
 walk_at "wp"
 rfl
theorem e_const_i {z : Int} : M_is_constant [.int z] = some (.sh (.bl true)):=by kernel_rfl
theorem e_const {w : W} (h : w.length <= 100) : M_is_constant [rt w] = some (.sh (.bl (cnB w))):=by
 unfold rt cnB
 cases numB w with
 | true=>exact e_const_i
 | false=>exact e_const_S h
theorem e_term_S {w : W} (h : w.length <= 100) : M_is_term [.str (S w)] = some (.sh (.bl (nmB w || vrB w))):=by
 refine Op.eq ?_
 unfold M_is_term fb_is_term
 walk_at "wrun"
 walk_at "wp"
 refine op_of (e_const_S h) ?_
 walk_at "wp"
 cases nmB w with
 | true=>walk_at "wp"; rfl
 | false=>
  walk_at "wp"
  refine op_of (e_var (Nat.le_trans h (by decide))) ?_
  walk_at "wp"
  rfl
theorem e_term_i {z : Int} : M_is_term [.int z] = some (.sh (.bl true)):=by kernel_rfl
theorem e_term {w : W} (h : w.length <= 100) : M_is_term [rt w] = some (.sh (.bl (tmB w))):=by
 unfold rt tmB
 cases numB w with
 | true=>exact e_term_i
 | false=>exact e_term_S h
def fD (ws : List W) : D:=match ws with | w0::r=>.tup [sD w0,.tup (r.map rt)] | []=>.non
def okF (ws : List W) : Bool:=match ws with | w0::r=>nmB w0 && decide (r.length <= 4) && r.all cnB | []=>false
theorem e_fact {w0 : W} {r : List W} (h : LB (w0::r)) : M_is_fact [fD (w0::r)] = some (.sh (.bl (okF (w0::r)))):=by
 have h0 : w0.length <= 100:=h.2 w0 List.mem_cons_self
 have hr : ∀ w ∈ r,w.length <= 100:=fun w hw=>h.2 w (List.mem_cons_of_mem _ hw)
 have hl : r.length <= 100:=by have:=h.1; simp at this; omega
 refine Op.eq ?_
 rw [show okF (w0::r) = (nmB w0 && decide (r.length <= 4) && r.all cnB) from rfl]
 unfold M_is_fact fb_is_fact fD sD
 walk_at "wrun"
 walk_at "wp"
 refine ⟨rfl,?_⟩
 walk_at "wp"
 refine o_ixT (k:=1) rfl ?_
 walk_at "wp"
 refine o_ixT (k:=0) rfl ?_
 walk_at "wp"
 refine op_of (e_name (Nat.le_trans h0 (by decide))) ?_
 walk_at "wp"
 cases nmB w0 with
 | false=>walk_at "wp"; rfl
 | true=>
  walk_at "wp"
  refine ⟨rfl,?_⟩
  walk_at "wp"
  refine op_of (d:=.bl (decide (4 < r.length))) (by show some (D.bl (decide ((4 : Int) < ((r.map rt).length : Int)))) = _; rw [List.length_map]; congr 2; exact decide_eq_decide.mpr (by omega)) ?_
  walk_at "wp"
  by_cases c : 4 < r.length
  ·rw [decide_eq_true c,decide_eq_false (show ¬ r.length <= 4 by omega)]
   walk_at "wp"; rfl
  ·rw [decide_eq_false c,decide_eq_true (show r.length <= 4 by omega)]
   walk_at "wp"
   refine ⟨sl_big (by rw [List.length_map]; omega),op_compY (k:=rt) (hh:=fun w=>.bl (cnB w)) (fun w hw=>?_) ?_⟩
   ·walk_at "wp"
    refine op_of (e_const (hr w hw)) ?_
    walk_at "wp"
    rfl
   ·walk_at "wp"
    refine all_map cnB _ ?_
    rfl
theorem op_split {f g : FE} {δ : En} {Rr : Rs->Prop} (k : Op (f δ) fun x=>Op (g δ) fun y=>Op (splitD x y) Rr) : Op (fSplit f g δ) Rr:=by
 obtain ⟨x,e1,y,e2,z,e3,k⟩:=k
 exact ⟨z,by unfold fSplit; rw [e1,Option.bind_some,e2,Option.bind_some,e3],k⟩
theorem split_ok {l y : W} (hy : 0 < y.length) (hl : l.length <= 1000) : SplitOk (S l) (S y):=by
 refine ⟨by rw [S_len]; exact beq_false_of_ne (by omega),by rw [S_len]; exact sl_big hl,?_⟩
 unfold Builtin.Str.partsBetween
 rw [List.length_map,List.length_zip]
 have:=StrLaws.occ_length_le (S l) (S y) 0 (S l).length ((S l).length + 1)
 have hl2:=S_len (w:=l)
 simp only [List.length_cons,List.length_map,List.length_append,List.length_nil]
 rw [sizeLine_eq]
 omega
theorem o_split {l y : W} {z : Str} {Rr : Rs->Prop} (hz : z = S y) (hy : 0 < y.length) (hk : y.all (· < 256) = true) (hl : l.length <= 1000) (k : Rr (.fr (.lst ((sp y 0 l).map sD)))) : Op (splitD (.str (S l)) (.str z)) Rr:=by
 subst hz
 refine op_of ?_ k
 show (if SplitOk (S l) (S y) then some (Rs.fr (.lst ((Txt.split (S l) (S y)).map D.str))) else none) = _
 rw [if_pos (split_ok hy hl),split_is hy hk,List.map_map]
 rfl
theorem cut_1 (x : D) (xs : List D) : L2.cutD (x::xs) (some 1) none = xs:=by
 unfold L2.cutD
 have e : HT.sIx (x::xs).length 0 (some 1) = 1:=by simp [HT.sIx]
 have e2 : HT.sIx (x::xs).length (x::xs).length none = (x::xs).length:=rfl
 rw [e,e2]
 simp
theorem blank_is : (" " : Str) = S [32]:=by decide +kernel
theorem so_eq {o : Option Out} {δ' : En} (h : So o (fun δ=>δ = δ') fun _ _=>False) : o = some (.nx δ'):=by
 obtain ⟨u,e,h⟩:=h
 cases u with
 | nx δ=>rw [e,h]
 | rt r δ=>exact h.elim
 | bk δ=>exact h.elim
 | ct δ=>exact h.elim
 | ex c δ=>exact h.elim
theorem seq_nx {F G : FS} {δ δ' : En} (h : F δ = some (.nx δ')) : sSeq F G δ = G δ':=by unfold sSeq; rw [h]
theorem seq_ex {F G : FS} {δ δ' : En} {c : Ex} (h : F δ = some (.ex c δ')) : sSeq F G δ = some (.ex c δ'):=by unfold sSeq; rw [h]
theorem seq_rt {F G : FS} {δ δ' : En} {c : Rs} (h : F δ = some (.rt c δ')) : sSeq F G δ = some (.rt c δ'):=by unfold sSeq; rw [h]
def EF (t : Str) (ws : List W) : En:=[some (.sh (.str t)),some (.sh (.lst (ws.map sD))),some (.sh (fD ws))]
structure Tx (ws : List W) : Prop where
 ne : ws ≠ []
 nb : NB ws
 lb : ∀ w ∈ ws,w.length <= 40
 le : ws.length <= 24
theorem Tx.LB {ws : List W} (h : Tx ws) : LB ws:=⟨by have:=h.le; omega,fun w hw=>Nat.le_trans (h.lb w hw) (by decide)⟩
theorem jB_len40 : ∀ {ws : List W},(∀ w ∈ ws,w.length <= 40)->(jB ws).length <= 41 * ws.length
 | [],_=>by simp [jB]
 | [w],h=>by have:=h w (by simp); simp only [jB,List.length_cons,List.length_nil]; omega
 | w::x::r,h=>by
  have h1:=h w (by simp)
  have h2:=jB_len40 (ws:=x::r) fun v hv=>h v (List.mem_cons_of_mem _ hv)
  simp only [jB,List.length_append,List.length_cons] at *
  omega
theorem Tx.len {ws : List W} (h : Tx ws) : (jB ws).length <= 1000:=by have:=jB_len40 h.lb; have:=h.le; omega
theorem rf_state {ws : List W} (h : Tx ws) : fb_read_fact [some (.sh (.str (S (jB ws)))),none,none] =
  sSeq (sIf (bNot (fB (fPub (fCallR M_is_fact (fCons (fVar 2) fNil))))) (sSeq (sRaise "NoText" (fCons (fC (.str "this text is no fact")) fNil)) sNil) sNil) (sSeq (sRetV 2) sNil) (EF (S (jB ws)) ws):=by
 have lb:=h.LB
 unfold fb_read_fact
 rw [seq_nx (δ':=[some (.sh (.str (S (jB ws)))),some (.sh (.lst (ws.map sD))),none])]
 ·rw [seq_nx (δ':=EF (S (jB ws)) ws)]
  refine so_eq ?_
  cases ws with
  | nil=>exact absurd rfl h.ne
  | cons w0 r=>
   walk_at "wp"
   refine o_ixL (k:=0) rfl ?_
   walk_at "wp"
   rw [List.map_cons,cut_1]
   refine op_of (e_terms (lb.sub (by simp) fun v hv=>List.mem_cons_of_mem _ hv)) ?_
   walk_at "wp"
   refine ⟨(by show (2 : Nat) <= sizeLine; decide),?_⟩
   walk_at "wp"
   rfl
 ·refine so_eq ?_
  walk_at "wp"
  refine op_split ?_
  walk_at "wp"
  refine o_split blank_is (by decide) (by decide) h.len ?_
  rw [sp_jB h.ne h.nb]
  walk_at "wp"
  rfl
def noT : Ex:=⟨"NoText",[],[]⟩
theorem raise_eq {c : Str} {g : En->Option (List D)} {δ : En} {ds : List D} (e : g δ = some ds) (h : ds.length <= sizeLine) : sRaise c g δ = some (.ex ⟨c,[],[]⟩ δ):=by unfold sRaise; rw [e]; exact if_pos h
theorem if_t {c : En->Option Bool} {F G : FS} {δ : En} (h : c δ = some true) : sIf c F G δ = F δ:=by unfold sIf; rw [h]; rfl
theorem if_f {c : En->Option Bool} {F G : FS} {δ : En} (h : c δ = some false) : sIf c F G δ = G δ:=by unfold sIf; rw [h]; rfl
theorem rf_cond {ws : List W} (h : Tx ws) : bNot (fB (fPub (fCallR M_is_fact (fCons (fVar 2) fNil)))) (EF (S (jB ws)) ws) = some (!okF ws):=by
 refine Op.eq ?_
 unfold EF
 cases ws with
 | nil=>exact absurd rfl h.ne
 | cons w0 r=>
  walk_at "wp"
  refine op_of (e_fact h.LB) ?_
  walk_at "wp"
  rfl
theorem rf_no {ws : List W} (h : Tx ws) (ok : okF ws = false) : fb_read_fact [some (.sh (.str (S (jB ws)))),none,none] = some (.ex noT (EF (S (jB ws)) ws)):=by
 rw [rf_state h]
 refine seq_ex ?_
 rw [if_t (by rw [rf_cond h,ok]; rfl)]
 exact seq_ex (raise_eq rfl (by show 1 <= sizeLine; decide))
theorem rf_ok {ws : List W} (h : Tx ws) (ok : okF ws = true) : M_read_fact [.str (S (jB ws))] = some (.sh (fD ws)):=by
 have e : fb_read_fact [some (.sh (.str (S (jB ws)))),none,none] = some (.rt (.sh (fD ws)) (EF (S (jB ws)) ws)):=by
  rw [rf_state h,seq_nx (δ':=EF (S (jB ws)) ws)]
  ·refine seq_rt ?_
   rfl
  ·rw [if_f (by rw [rf_cond h,ok]; rfl)]
   rfl
 unfold M_read_fact runF
 rw [if_pos (show [D.str (S (jB ws))].length = 1 from rfl)]
 show (match fb_read_fact [some (.sh (.str (S (jB ws)))),none,none] with | some (.rt d _)=>some d | some (.nx _)=>some (.sh .non) | _=>none) = _
 rw [e]
theorem eqA_S {v w : W} : eqA (sD v) (sD w) = decide (v = w):=by
 unfold sD
 rw [eqA_flat rfl rfl]
 show eqV (.str (S v)) (.str (S w)) = _
 by_cases h : v = w
 ·subst h; simp [eqV]
 ·rw [decide_eq_false h]
  have : S v ≠ S w:=fun e=>h (S_inj.mp e)
  simp [eqV,this]
theorem eqL_S {v w : W} {R : D->Prop} (k : R (.bl (decide (v = w)))) : Op (eqO false (.lst [sD v]) (.lst [sD w])) R:=by
 refine op_of ?_ k
 show some (D.bl (eqAs [sD v] [sD w])) = _
 congr 2
 simp [eqAs,eqA_S]
theorem in2_S {v a b : W} {R : D->Prop} (k : R (.bl (decide (v = a) || decide (v = b)))) : Op (inE false (sD v) (.tup [sD a,sD b])) R:=by
 refine op_of ?_ k
 show some (D.bl (inA (sD v) [sD a,sD b])) = _
 congr 2
 have e : ∀ x y : W,decide (x = y) = decide (y = x):=fun x y=>decide_eq_decide.mpr eq_comm
 simp only [inA,List.any_cons,List.any_nil,Bool.or_false,eqA_S]
 rw [e a v,e b v]
theorem inL2_S {v a b : W} {R : D->Prop} (k : R (.bl (decide (v = a) || decide (v = b)))) : Op (inE false (.lst [sD v]) (.tup [.lst [sD a],.lst [sD b]])) R:=by
 refine op_of ?_ k
 show some (D.bl (inA (.lst [sD v]) [.lst [sD a],.lst [sD b]])) = _
 congr 2
 have e : ∀ x y : W,decide (x = y) = decide (y = x):=fun x y=>decide_eq_decide.mpr eq_comm
 have q : ∀ x : W,eqA (.lst [sD x]) (.lst [sD v]) = decide (x = v):=fun x=>by
  have : eqA (.lst [sD x]) (.lst [sD v]) = eqAs [sD x] [sD v]:=by simp only [eqA]
  rw [this]; simp [eqAs,eqA_S]
 simp only [inA,List.any_cons,List.any_nil,Bool.or_false,q]
 rw [e a v,e b v]
def wNot : W:=[110,111,116]
def wUnder : W:=[117,110,100,101,114]
def wUnlike : W:=[117,110,108,105,107,101]
def wSum : W:=[115,117,109]
def wLeast : W:=[108,101,97,115,116]
def wCount : W:=[99,111,117,110,116]
def wYes : W:=[121,101,115]
theorem s_not : ("not" : Str) = S wNot:=by decide +kernel
theorem s_under : ("under" : Str) = S wUnder:=by decide +kernel
theorem s_unlike : ("unlike" : Str) = S wUnlike:=by decide +kernel
theorem s_sum : ("sum" : Str) = S wSum:=by decide +kernel
theorem s_least : ("least" : Str) = S wLeast:=by decide +kernel
theorem s_count : ("count" : Str) = S wCount:=by decide +kernel
theorem s_yes : ("yes" : Str) = S wYes:=by decide +kernel
theorem s_empty : ("" : Str) = S []:=by decide +kernel
def isU (w : W) : Bool:=decide (w = wUnder) || decide (w = wUnlike)
def lD : List W->D
 | []=>.non
 | w::r=>if isU w = true then .tup (sD w::r.map rt) else if w = wNot then .tup [sD wNot,sD (r.head?.getD []),.tup ((r.drop 1).map rt)] else .tup [sD wYes,sD w,.tup (r.map rt)]
theorem lD_cons (w : W) (r : List W) : lD (w::r) = if isU w = true then .tup (sD w::r.map rt) else if w = wNot then .tup [sD wNot,sD (r.head?.getD []),.tup ((r.drop 1).map rt)] else .tup [sD wYes,sD w,.tup (r.map rt)]:=rfl
theorem cut_12 (x : D) (xs : List D) : L2.cutD (x::xs) (some 1) (some 2) = xs.take 1:=by
 unfold L2.cutD
 cases xs with
 | nil=>simp [HT.sIx]
 | cons y xs=>
  have e : HT.sIx (x::y::xs).length 0 (some 1) = 1:=by simp [HT.sIx]
  have e2 : HT.sIx (x::y::xs).length (x::y::xs).length (some 2) = 2:=by simp [HT.sIx]
  rw [e,e2]
  simp
theorem cut_2 (x : D) (xs : List D) : L2.cutD (x::xs) (some 2) none = xs.drop 1:=by
 unfold L2.cutD
 cases xs with
 | nil=>simp [HT.sIx]
 | cons y xs=>
  have e : HT.sIx (x::y::xs).length 0 (some 2) = 2:=by simp [HT.sIx]
  have e2 : HT.sIx (x::y::xs).length (x::y::xs).length none = (x::y::xs).length:=rfl
  rw [e,e2]
  simp
theorem join_1 {r : List W} {R : D->Prop} (h : ∀ w ∈ r,w.length <= 100) (k : R (sD (r.head?.getD []))) : Op (joinD (.str "") (.lst ((r.map sD).take 1))) R:=by
 refine op_of ?_ k
 rw [s_empty]
 cases r with
 | nil=>rfl
 | cons w r=>
  have hw:=h w (by simp)
  have e : joinD (.str (S [])) (.lst [sD w]) = (strsD [sD w]).bind fun ys=>if (ys.map fun y=>y.length).sum + ys.length * (S []).length <= 16777216 then some (.str (Txt.join (S []) ys)) else none:=rfl
  refine Eq.trans e ?_
  show (if (([S w] : List Str).map fun y=>y.length).sum + ([S w] : List Str).length * (S []).length <= 16777216 then some (D.str (Txt.join (S []) [S w])) else none) = _
  rw [if_pos (by simp only [List.map_cons,List.map_nil,List.sum_cons,List.sum_nil,List.length_cons,List.length_nil]; rw [S_len,S_len]; simp; omega)]
  rfl
theorem tup_add {xs ys : List D} {R : D->Prop} (h : xs.length + ys.length <= 1000) (k : R (.tup (xs++ys))) : Op (addD (.tup xs) (.tup ys)) R:=by
 refine op_of ?_ k
 show Option.or _ (Option.or _ (Option.or (tupAdd (.tup xs) (.tup ys)) _)) = _
 have : tupAdd (.tup xs) (.tup ys) = some (.tup (xs++ys)):=by
  unfold tupAdd
  exact if_pos (by rw [sizeLine_eq]; omega)
 rw [this]
 rfl
theorem e_lit {p : List W} (hn : p ≠ []) (nb : NB p) (lb : LB p) (hl : (jB p).length <= 1000) : M_read_literal [.str (S (jB p))] = some (.sh (lD p)):=by
 cases p with
 | nil=>exact absurd rfl hn
 | cons w r=>
  have lr : LB r:=lb.sub (by simp) fun v hv=>List.mem_cons_of_mem _ hv
  refine Op.eq ?_
  unfold M_read_literal fb_read_literal
  walk_at "wrun"
  walk_at "wp"
  refine op_split ?_
  walk_at "wp"
  refine o_split blank_is (by decide) (by decide) hl ?_
  rw [sp_jB (by simp) nb]
  walk_at "wp"
  rw [List.map_cons]
  refine o_ixL (k:=0) rfl ?_
  walk_at "wp"
  refine ⟨(by show (2 : Nat) <= sizeLine; decide),?_⟩
  rw [s_under,s_unlike]
  refine in2_S ?_
  walk_at "wp"
  rw [lD_cons]
  rw [show (decide (w = wUnder) || decide (w = wUnlike)) = isU w from rfl]
  cases isU w with
  | true=>
   walk_at "wp"
   refine o_ixL (k:=0) rfl ?_
   walk_at "wp"
   refine ⟨(by show (1 : Nat) <= sizeLine; decide),?_⟩
   walk_at "wp"
   rw [cut_1]
   refine op_of (e_terms lr) ?_
   walk_at "wp"
   refine tup_add (by have:=lr.1; simp; omega) ?_
   rfl
  | false=>
   walk_at "wp"
   refine o_ixL (k:=0) rfl ?_
   walk_at "wp"
   rw [s_not]
   refine neS ?_
   walk_at "wp"
   by_cases hw : w = wNot
   ·rw [decide_eq_true hw]
    walk_at "wp"
    rw [cut_12]
    refine join_1 lr.2 ?_
    walk_at "wp"
    rw [cut_2,<- List.map_drop]
    refine op_of (e_terms (lr.sub (by simp) fun v hv=>List.drop_subset _ _ hv)) ?_
    walk_at "wp"
    refine ⟨(by show (3 : Nat) <= sizeLine; decide),?_⟩
    rw [if_neg Bool.false_ne_true,if_pos hw]
    rfl
   ·rw [decide_eq_false hw]
    walk_at "wp"
    refine o_ixL (k:=0) rfl ?_
    walk_at "wp"
    rw [cut_1]
    refine op_of (e_terms lr) ?_
    walk_at "wp"
    refine ⟨(by show (3 : Nat) <= sizeLine; decide),?_⟩
    rw [if_neg Bool.false_ne_true,if_neg hw,s_yes]
    rfl
def hT (r : List W) : List D:=
 match r.reverse with
 | []=>[]
 | z::us=>if z = wCount then us.reverse.map rt++[.tup [sD wCount]] else match us with
  | []=>r.map rt
  | y::vs=>if y = wSum \/ y = wLeast then vs.reverse.map rt++[.tup [sD y,sD z]] else r.map rt
theorem cut_m1 (xs : List D) (x : D) : L2.cutD (xs++[x]) none (some (-1)) = xs:=by
 unfold L2.cutD
 have e1 : HT.sIx (xs++[x]).length 0 none = 0:=rfl
 have e2 : HT.sIx (xs++[x]).length (xs++[x]).length (some (-1)) = xs.length:=by simp [HT.sIx]; omega
 rw [e1,e2]; simp
theorem cut_l1 (xs : List D) (x : D) : L2.cutD (xs++[x]) (some (-1)) none = [x]:=by
 unfold L2.cutD
 have e1 : HT.sIx (xs++[x]).length 0 (some (-1)) = xs.length:=by simp [HT.sIx]; omega
 have e2 : HT.sIx (xs++[x]).length (xs++[x]).length none = (xs++[x]).length:=rfl
 rw [e1,e2]; simp
theorem cut_m2 (xs : List D) (x y : D) : L2.cutD (xs++[x,y]) none (some (-2)) = xs:=by
 unfold L2.cutD
 have e1 : HT.sIx (xs++[x,y]).length 0 none = 0:=rfl
 have e2 : HT.sIx (xs++[x,y]).length (xs++[x,y]).length (some (-2)) = xs.length:=by simp [HT.sIx]; omega
 rw [e1,e2]; simp
theorem cut_l2 (xs : List D) (x y : D) : L2.cutD (xs++[x,y]) (some (-2)) none = [x,y]:=by
 unfold L2.cutD
 have e1 : HT.sIx (xs++[x,y]).length 0 (some (-2)) = xs.length:=by simp [HT.sIx]; omega
 have e2 : HT.sIx (xs++[x,y]).length (xs++[x,y]).length none = (xs++[x,y]).length:=rfl
 rw [e1,e2]; simp
theorem cut_21 (xs : List D) (x y : D) : L2.cutD (xs++[x,y]) (some (-2)) (some (-1)) = [x]:=by
 unfold L2.cutD
 have e1 : HT.sIx (xs++[x,y]).length 0 (some (-2)) = xs.length:=by simp [HT.sIx]; omega
 have e2 : HT.sIx (xs++[x,y]).length (xs++[x,y]).length (some (-1)) = xs.length + 1:=by simp [HT.sIx]; omega
 rw [e1,e2]; simp
theorem rev_cases (r : List W) : r = [] \/ (∃ z,r = [z]) \/ ∃ us y z,r = us++[y,z]:=by
 cases h : r.reverse with
 | nil=>left; simpa using h
 | cons z us=>
  right
  have e : r = us.reverse++[z]:=by rw [<- List.reverse_reverse r,h]; simp
  cases us with
  | nil=>left; exact ⟨z,by simpa using e⟩
  | cons y vs=>right; exact ⟨vs.reverse,y,z,by simpa using e⟩
theorem e_head {r : List W} (lb : LB r) : M_read_head_terms [.lst (r.map sD)] = some (.sh (.tup (hT r))):=by
 rcases rev_cases r with rfl | ⟨z,rfl⟩ | ⟨us,y,z,rfl⟩
 ·kernel_rfl
 ·refine Op.eq ?_
  unfold M_read_head_terms fb_read_head_terms
  walk_at "wrun"
  walk_at "wp"
  have c1:=cut_l1 [] (sD z)
  rw [List.nil_append] at c1
  rw [c1]
  refine ⟨(by show (1 : Nat) <= sizeLine; decide),?_⟩
  walk_at "wp"
  rw [s_count]
  refine eqL_S ?_
  walk_at "wp"
  by_cases hz : z = wCount
  ·rw [decide_eq_true hz]
   walk_at "wp"
   have c2:=cut_m1 [] (sD z)
   rw [List.nil_append] at c2
   rw [c2]
   refine op_of (e_terms (ws:=[]) ⟨by simp,by simp⟩) ?_
   walk_at "wp"
   refine ⟨(by show (1 : Nat) <= sizeLine; decide),?_⟩
   walk_at "wp"
   refine ⟨(by show (1 : Nat) <= sizeLine; decide),?_⟩
   walk_at "wp"
   refine tup_add (by simp) ?_
   simp [hT,hz,sD,s_count]
  ·rw [decide_eq_false hz]
   walk_at "wp"
   have c3 : L2.cutD [sD z] (some (-2)) (some (-1)) = []:=by
    unfold L2.cutD
    simp [HT.sIx]
   rw [show -(2 : Int) = -2 from rfl,show -(1 : Int) = -1 from rfl,c3]
   refine ⟨(by show (1 : Nat) <= sizeLine; decide),?_⟩
   walk_at "wp"
   refine ⟨(by show (1 : Nat) <= sizeLine; decide),?_⟩
   walk_at "wp"
   refine ⟨(by show (2 : Nat) <= sizeLine; decide),?_⟩
   walk_at "wp"
   refine op_of (d:=.bl false) rfl ?_
   walk_at "wp"
   refine op_of (e_terms lb) ?_
   simp [hT,hz]
 ·refine Op.eq ?_
  unfold M_read_head_terms fb_read_head_terms
  walk_at "wrun"
  walk_at "wp"
  have c0 : List.map sD (us++[y,z]) = us.map sD++[sD y,sD z]:=by simp
  have c0' : List.map sD (us++[y,z]) = (us.map sD++[sD y])++[sD z]:=by simp
  rw [show L2.cutD (List.map sD (us++[y,z])) (some (-1)) none = [sD z] by rw [c0',cut_l1]]
  refine ⟨(by show (1 : Nat) <= sizeLine; decide),?_⟩
  walk_at "wp"
  rw [s_count]
  refine eqL_S ?_
  walk_at "wp"
  by_cases hz : z = wCount
  ·rw [decide_eq_true hz]
   walk_at "wp"
   rw [show L2.cutD (List.map sD (us++[y,z])) none (some (-1)) = (us++[y]).map sD by rw [c0',cut_m1]; simp]
   refine op_of (e_terms (lb.sub (by simp) fun v hv=>by simp at hv ⊢; rcases hv with h | h <;> simp [h])) ?_
   walk_at "wp"
   refine ⟨(by show (1 : Nat) <= sizeLine; decide),?_⟩
   walk_at "wp"
   refine ⟨(by show (1 : Nat) <= sizeLine; decide),?_⟩
   walk_at "wp"
   refine tup_add (by have:=lb.1; simp at *; omega) ?_
   simp [hT,hz,sD,s_count]
  ·rw [decide_eq_false hz]
   walk_at "wp"
   rw [show L2.cutD (List.map sD (us++[y,z])) (some (-2)) (some (-1)) = [sD y] by rw [c0,cut_21]]
   refine ⟨(by show (1 : Nat) <= sizeLine; decide),?_⟩
   walk_at "wp"
   refine ⟨(by show (1 : Nat) <= sizeLine; decide),?_⟩
   walk_at "wp"
   refine ⟨(by show (2 : Nat) <= sizeLine; decide),?_⟩
   walk_at "wp"
   rw [s_sum,s_least]
   refine inL2_S ?_
   walk_at "wp"
   by_cases hy : y = wSum \/ y = wLeast
   ·have : (decide (y = wSum) || decide (y = wLeast)) = true:=by simpa using hy
    rw [this]
    walk_at "wp"
    rw [show L2.cutD (List.map sD (us++[y,z])) none (some (-2)) = us.map sD by rw [c0,cut_m2]]
    refine op_of (e_terms (lb.sub (by simp) fun v hv=>by simp [hv])) ?_
    walk_at "wp"
    rw [show L2.cutD (List.map sD (us++[y,z])) (some (-2)) none = [sD y,sD z] by rw [c0,cut_l2]]
    walk_at "wp"
    refine ⟨(by show (1 : Nat) <= sizeLine; decide),?_⟩
    walk_at "wp"
    refine tup_add (by have:=lb.1; simp at *; omega) ?_
    simp [hT,hz,hy]
   ·have : (decide (y = wSum) || decide (y = wLeast)) = false:=by simpa using hy
    rw [this]
    walk_at "wp"
    refine op_of (e_terms lb) ?_
    simp [hT,hz,hy]
theorem e_are {α : Type} {f : α->D} {p : α->Bool} {xs : List α} (hl : xs.length <= 100) (h : ∀ x ∈ xs,M_is_term [f x] = some (.sh (.bl (p x)))) : M_are_terms [.tup (xs.map f)] = some (.sh (.bl (decide (xs.length <= 4) && xs.all p))):=by
 refine Op.eq ?_
 unfold M_are_terms fb_are_terms
 walk_at "wrun"
 walk_at "wp"
 refine ⟨rfl,?_⟩
 walk_at "wp"
 refine op_of (d:=.bl (decide (4 < xs.length))) (by show some (D.bl (decide ((4 : Int) < ((xs.map f).length : Int)))) = _; rw [List.length_map]; congr 2; exact decide_eq_decide.mpr (by omega)) ?_
 walk_at "wp"
 by_cases c : 4 < xs.length
 ·rw [decide_eq_true c,decide_eq_false (show ¬ xs.length <= 4 by omega)]
  walk_at "wp"; rfl
 ·rw [decide_eq_false c,decide_eq_true (show xs.length <= 4 by omega)]
  walk_at "wp"
  refine ⟨sl_big (by rw [List.length_map]; omega),op_compY (k:=f) (hh:=fun w=>.bl (p w)) (fun w hw=>?_) ?_⟩
  ·walk_at "wp"
   refine op_of (h w hw) ?_
   walk_at "wp"
   rfl
  ·walk_at "wp"
   refine all_map p _ ?_
   rfl
theorem e_are_rt {ws : List W} (lb : LB ws) : M_are_terms [.tup (ws.map rt)] = some (.sh (.bl (decide (ws.length <= 4) && ws.all tmB))):=e_are lb.1 fun w hw=>e_term (lb.2 w hw)
def okLit : List W->Bool
 | []=>false
 | w::r=>if isU w = true then (match r with | [a,b]=>tmB a && tmB b | _=>false) else if w = wNot then nmB (r.head?.getD []) && (decide ((r.drop 1).length <= 4) && (r.drop 1).all tmB) else nmB w && (decide (r.length <= 4) && r.all tmB)
theorem okLit_cons (w : W) (r : List W) : okLit (w::r) = if isU w = true then (match r with | [a,b]=>tmB a && tmB b | _=>false) else if w = wNot then nmB (r.head?.getD []) && (decide ((r.drop 1).length <= 4) && (r.drop 1).all tmB) else nmB w && (decide (r.length <= 4) && r.all tmB):=rfl
theorem lit_pr {k n : W} {t : D} {b1 b2 : Bool} (hk : k = wYes \/ k = wNot) (h1 : M_is_name [sD n] = some (.sh (.bl b1))) (h2 : M_are_terms [t] = some (.sh (.bl b2))) : M_is_literal [.tup [sD k,sD n,t]] = some (.sh (.bl (b1 && b2))):=by
 refine Op.eq ?_
 unfold M_is_literal fb_is_literal
 walk_at "wrun"
 walk_at "wp"
 refine ⟨rfl,?_⟩
 walk_at "wp"
 refine o_ixT (k:=0) rfl ?_
 refine ⟨rfl,?_⟩
 walk_at "wp"
 refine o_ixT (k:=0) rfl ?_
 walk_at "wp"
 refine ⟨(by show (2 : Nat) <= sizeLine; decide),?_⟩
 rw [s_yes,s_not]
 refine in2_S ?_
 walk_at "wp"
 have : (decide (k = wYes) || decide (k = wNot)) = true:=by simpa using hk
 rw [this]
 walk_at "wp"
 refine o_ixT (k:=1) rfl ?_
 walk_at "wp"
 refine op_of h1 ?_
 walk_at "wp"
 cases b1 with
 | false=>walk_at "wp"; rfl
 | true=>
  walk_at "wp"
  refine o_ixT (k:=2) rfl ?_
  walk_at "wp"
  refine op_of h2 ?_
  walk_at "wp"
  rfl
theorem lit_cm {k : W} {x y : D} {b1 b2 : Bool} (hk : isU k = true) (h1 : M_is_term [x] = some (.sh (.bl b1))) (h2 : M_is_term [y] = some (.sh (.bl b2))) : M_is_literal [.tup [sD k,x,y]] = some (.sh (.bl (b1 && b2))):=by
 have hk' : k = wUnder \/ k = wUnlike:=by unfold isU at hk; simpa using hk
 refine Op.eq ?_
 unfold M_is_literal fb_is_literal
 walk_at "wrun"
 walk_at "wp"
 refine ⟨rfl,?_⟩
 walk_at "wp"
 refine o_ixT (k:=0) rfl ?_
 refine ⟨rfl,?_⟩
 walk_at "wp"
 refine o_ixT (k:=0) rfl ?_
 walk_at "wp"
 refine ⟨(by show (2 : Nat) <= sizeLine; decide),?_⟩
 rw [s_yes,s_not]
 refine in2_S ?_
 walk_at "wp"
 have : (decide (k = wYes) || decide (k = wNot)) = false:=by rcases hk' with rfl | rfl <;> decide
 rw [this]
 walk_at "wp"
 refine o_ixT (k:=0) rfl ?_
 walk_at "wp"
 refine ⟨(by show (2 : Nat) <= sizeLine; decide),?_⟩
 rw [s_under,s_unlike]
 refine in2_S ?_
 rw [show (decide (k = wUnder) || decide (k = wUnlike)) = isU k from rfl,hk]
 walk_at "wp"
 refine o_ixT (k:=1) rfl ?_
 walk_at "wp"
 refine op_of h1 ?_
 walk_at "wp"
 cases b1 with
 | false=>walk_at "wp"; rfl
 | true=>
  walk_at "wp"
  refine o_ixT (k:=2) rfl ?_
  walk_at "wp"
  refine op_of h2 ?_
  walk_at "wp"
  rfl
theorem lit_odd {xs : List D} (h : xs.length ≠ 3) (hl : xs.length <= 1000) : M_is_literal [.tup xs] = some (.sh (.bl false)):=by
 refine Op.eq ?_
 unfold M_is_literal fb_is_literal
 walk_at "wrun"
 walk_at "wp"
 refine ⟨rfl,?_⟩
 walk_at "wp"
 rw [decide_eq_false (by omega)]
 walk_at "wp"
 rfl
theorem e_islit {p : List W} (hn : p ≠ []) (lb : LB p) : M_is_literal [lD p] = some (.sh (.bl (okLit p))):=by
 cases p with
 | nil=>exact absurd rfl hn
 | cons w r=>
  have lr : LB r:=lb.sub (by simp) fun v hv=>List.mem_cons_of_mem _ hv
  have hw:=lb.2 w List.mem_cons_self
  rw [lD_cons,okLit_cons]
  cases hu : isU w with
  | true=>
   rw [if_pos rfl,if_pos rfl]
   match r,lr with
   | [a,b],lr=>exact lit_cm hu (e_term (lr.2 a (by simp))) (e_term (lr.2 b (by simp)))
   | [],_=>exact lit_odd (by simp) (by simp)
   | [a],_=>exact lit_odd (by simp) (by simp)
   | a::b::c::r,lr=>exact lit_odd (by simp) (by have:=lr.1; simp at *; omega)
  | false=>
   rw [if_neg Bool.false_ne_true,if_neg Bool.false_ne_true]
   by_cases hn : w = wNot
   ·rw [if_pos hn,if_pos hn]
    refine lit_pr (.inr rfl) (e_name ?_) (e_are_rt (lr.sub (by simp) fun v hv=>List.drop_subset _ _ hv))
    cases r with
    | nil=>simp
    | cons a r=>exact Nat.le_trans (lr.2 a (by simp)) (by decide)
   ·rw [if_neg hn,if_neg hn]
    exact lit_pr (.inl rfl) (e_name (Nat.le_trans hw (by decide))) (e_are_rt lr)
def isY : List W->Bool | []=>false | w::_=>!isU w && !decide (w = wNot)
def okB (ps : List (List W)) : Bool:=(decide (1 <= ps.length) && decide (ps.length <= 6)) && ps.all okLit && decide ((ps.filter isY).length <= 4)
theorem lD_0 {p : List W} (hn : p ≠ []) : ∃ k xs,lD p = .tup (sD k::xs) /\ decide (k = wYes) = isY p:=by
 cases p with
 | nil=>exact absurd rfl hn
 | cons w r=>
  rw [lD_cons]
  cases hu : isU w with
  | true=>
   refine ⟨w,_,if_pos rfl,?_⟩
   have hk' : w = wUnder \/ w = wUnlike:=by unfold isU at hu; simpa using hu
   show _ = (!isU w && !decide (w = wNot))
   rw [hu]
   rcases hk' with rfl | rfl <;> decide
  | false=>
   rw [if_neg Bool.false_ne_true]
   by_cases hn : w = wNot
   ·refine ⟨wNot,_,if_pos hn,?_⟩
    show _ = (!isU w && !decide (w = wNot))
    rw [hu,decide_eq_true hn]; decide
   ·refine ⟨wYes,_,if_neg hn,?_⟩
    show _ = (!isU w && !decide (w = wNot))
    rw [hu,decide_eq_false hn]; decide
theorem e_isbody {ps : List (List W)} (hp : ∀ p ∈ ps,p ≠ [] /\ LB p) (hl : ps.length <= 100) : M_is_body [.tup (ps.map lD)] = some (.sh (.bl (okB ps))):=by
 refine Op.eq ?_
 unfold M_is_body fb_is_body okB
 walk_at "wrun"
 walk_at "wp"
 refine ⟨rfl,?_⟩
 walk_at "wp"
 rw [List.length_map]
 refine o_cond (fun c=>?_) fun c=>?_
 ·rw [decide_eq_true (show 1 <= ps.length by omega)]
  walk_at "wp"
  refine op_of (d:=.bl (decide (ps.length <= 6))) (by show some (D.bl (decide ((ps.length : Int) <= 6))) = _; congr 2; exact decide_eq_decide.mpr (by omega)) ?_
  walk_at "wp"
  cases h6 : decide (ps.length <= 6) with
  | false=>walk_at "wp"; rfl
  | true=>
   walk_at "wp"
   refine ⟨sl_big (by rw [List.length_map]; omega),op_compY (k:=lD) (hh:=fun w=>.bl (okLit w)) (fun w hw=>?_) ?_⟩
   ·walk_at "wp"
    refine op_of (e_islit (hp w hw).1 (hp w hw).2) ?_
    walk_at "wp"
    rfl
   ·walk_at "wp"
    refine all_map okLit _ ?_
    walk_at "wp"
    cases ps.all okLit with
    | false=>walk_at "wp"; rfl
    | true=>
     walk_at "wp"
     refine ⟨sl_big (by rw [List.length_map]; omega),op_compI (k:=lD) (p:=isY) (hh:=lD) (fun w hw=>?_) (fun w hw _=>?_) ?_⟩
     ·obtain ⟨k,xs,e1,e2⟩:=lD_0 (hp w hw).1
      rw [e1]
      walk_at "wp"
      refine o_ixT (k:=0) rfl ?_
      walk_at "wp"
      rw [s_yes]
      refine eqS ?_
      walk_at "wp"
      exact e2
     ·walk_at "wp"
      rfl
     ·walk_at "wp"
      rw [List.length_map]
      refine op_of (d:=.bl (decide ((ps.filter isY).length <= 4))) (by show some (D.bl (decide (((ps.filter isY).length : Int) <= 4))) = _; congr 2; exact decide_eq_decide.mpr (by omega)) ?_
      rfl
 ·rw [decide_eq_false (show ¬ 1 <= ps.length by omega)]
  walk_at "wp"
  rfl
def okH (r : List W) : Bool:=
 match r.reverse with
 | []=>true
 | z::us=>if z = wCount then decide (r.length <= 4) && us.reverse.all tmB else match us with
  | []=>decide (r.length <= 4) && r.all tmB
  | y::vs=>if y = wSum \/ y = wLeast then decide (vs.length + 1 <= 4) && (vrB z && vs.reverse.all tmB) else decide (r.length <= 4) && r.all tmB
theorem grp_S {w : W} : M_is_grouping [.str (S w)] = some (.sh (.bl false)):=by kernel_rfl
theorem grp_i {z : Int} : M_is_grouping [.int z] = some (.sh (.bl false)):=by kernel_rfl
theorem grp_rt {w : W} : M_is_grouping [rt w] = some (.sh (.bl false)):=by
 unfold rt
 split
 ·exact grp_i
 ·exact grp_S
theorem grp_count : M_is_grouping [.tup [sD wCount]] = some (.sh (.bl true)):=by kernel_rfl
theorem term_tup {x : D} {xs : List D} : M_is_term [.tup (x::xs)] = some (.sh (.bl false)):=by kernel_rfl
theorem grp_two {y z : W} (hy : y = wSum \/ y = wLeast) (hz : z.length <= 100) : M_is_grouping [.tup [sD y,sD z]] = some (.sh (.bl (vrB z))):=by
 refine Op.eq ?_
 unfold M_is_grouping fb_is_grouping
 walk_at "wrun"
 walk_at "wp"
 refine ⟨rfl,?_⟩
 walk_at "wp"
 refine ⟨(by show (2 : Nat) <= sizeLine; decide),?_⟩
 refine op_of (d:=.bl false) rfl ?_
 walk_at "wp"
 refine o_ixT (k:=0) rfl ?_
 refine ⟨rfl,?_⟩
 walk_at "wp"
 refine o_ixT (k:=0) rfl ?_
 walk_at "wp"
 refine ⟨(by show (2 : Nat) <= sizeLine; decide),?_⟩
 rw [s_sum,s_least]
 refine in2_S ?_
 have : (decide (y = wSum) || decide (y = wLeast)) = true:=by simpa using hy
 rw [this]
 walk_at "wp"
 refine o_ixT (k:=1) rfl ?_
 walk_at "wp"
 refine op_of (e_var (Nat.le_trans hz (by decide))) ?_
 walk_at "wp"
 rfl
theorem ix_last (xs : List D) (x : D) : ixA (.tup (xs++[x])) (.int (-1)) = some x:=by
 show atI (xs++[x]) (-1) = some x
 unfold atI ixN
 rw [if_neg (by decide),if_pos (by simp; omega)]
 simp
 rw [show (-1 + ((xs.length : Int) + 1)).toNat = xs.length by omega]
 simp
theorem ah_last {xs : List D} {x : D} {g b1 b2 : Bool} (hl : xs.length <= 100) (hg : M_is_grouping [x] = some (.sh (.bl g))) (h1 : M_are_terms [.tup xs] = some (.sh (.bl b1))) (h2 : g = false->M_are_terms [.tup (xs++[x])] = some (.sh (.bl b2))) :
  M_are_head_terms [.tup (xs++[x])] = some (.sh (.bl (decide (xs.length + 1 <= 4) && (if g = true then b1 else b2)))):=by
 refine Op.eq ?_
 unfold M_are_head_terms fb_are_head_terms
 walk_at "wrun"
 walk_at "wp"
 refine ⟨rfl,?_⟩
 walk_at "wp"
 refine op_of (d:=.bl (decide (4 < xs.length + 1))) (by show some (D.bl (decide ((4 : Int) < ((xs++[x]).length : Int)))) = _; congr 2; exact decide_eq_decide.mpr (by simp; omega)) ?_
 walk_at "wp"
 by_cases c : 4 < xs.length + 1
 ·rw [decide_eq_true c,decide_eq_false (show ¬ xs.length + 1 <= 4 by omega)]
  walk_at "wp"; rfl
 ·rw [decide_eq_false c,decide_eq_true (show xs.length + 1 <= 4 by omega)]
  walk_at "wp"
  rw [decide_eq_true (show (0 : Int) < ((xs++[x]).length : Int) by simp)]
  walk_at "wp"
  refine op_of (ix_last xs x) ?_
  walk_at "wp"
  refine op_of hg ?_
  walk_at "wp"
  cases g with
  | true=>
   walk_at "wp"
   rw [show -(1 : Int) = -1 from rfl,cut_m1]
   refine op_of h1 ?_
   rfl
  | false=>
   walk_at "wp"
   refine op_of (h2 rfl) ?_
   rfl
theorem e_heads {r : List W} (lb : LB r) : M_are_head_terms [.tup (hT r)] = some (.sh (.bl (okH r))):=by
 have plain : ∀ (us : List W) (z : W),LB (us++[z])->M_are_head_terms [.tup ((us++[z]).map rt)] = some (.sh (.bl (decide ((us++[z]).length <= 4) && (us++[z]).all tmB))):=by
  intro us z l
  have:=ah_last (xs:=us.map rt) (x:=rt z) (by have:=l.1; simp at *; omega) grp_rt (e_are_rt (l.sub (by simp) fun v hv=>by simp [hv])) (b2:=decide ((us++[z]).length <= 4) && (us++[z]).all tmB) (fun _=>by
   have h:=e_are_rt l
   rw [List.map_append] at h
   exact h)
  rw [List.map_append]
  refine Eq.trans this ?_
  rw [if_neg Bool.false_ne_true,List.length_map,List.length_append]
  simp only [List.length_cons,List.length_nil]
  cases decide (us.length + (0 + 1) <= 4) <;> simp_all
 rcases rev_cases r with rfl | ⟨z,rfl⟩ | ⟨us,y,z,rfl⟩
 ·kernel_rfl
 ·by_cases hz : z = wCount
  ·subst hz; kernel_rfl
  ·have e1 : hT [z] = ([]++[z]).map rt:=by simp [hT,hz]
   have e2 : okH [z] = (decide (([]++[z] : List W).length <= 4) && ([]++[z] : List W).all tmB):=by simp [okH,hz]
   rw [e1,e2]
   exact plain [] z lb
 ·by_cases hz : z = wCount
  ·have e1 : hT (us++[y,z]) = (us++[y]).map rt++[.tup [sD wCount]]:=by simp [hT,hz]
   have e2 : okH (us++[y,z]) = (decide ((us++[y]).length + 1 <= 4) && (us++[y]).all tmB):=by simp [okH,hz]
   rw [e1,e2]
   have lb' : LB (us++[y]):=lb.sub (by simp) fun v hv=>by simp at hv ⊢; rcases hv with h | h <;> simp [h]
   have:=ah_last (xs:=(us++[y]).map rt) (x:=.tup [sD wCount]) (b2:=false) (by have:=lb.1; simp at *; omega) grp_count (e_are_rt lb') (fun h=>by cases h)
   refine Eq.trans this ?_
   rw [if_pos rfl,List.length_map]
   by_cases c : (us++[y]).length + 1 <= 4
   ·rw [decide_eq_true c,decide_eq_true (show (us++[y]).length <= 4 by omega)]; rfl
   ·rw [decide_eq_false c]; rfl
  ·by_cases hy : y = wSum \/ y = wLeast
   ·have e1 : hT (us++[y,z]) = us.map rt++[.tup [sD y,sD z]]:=by simp [hT,hz,hy]
    have e2 : okH (us++[y,z]) = (decide (us.length + 1 <= 4) && (vrB z && us.all tmB)):=by simp [okH,hz,hy]
    rw [e1,e2]
    have lb' : LB us:=lb.sub (by simp) fun v hv=>by simp [hv]
    have all2 : M_are_terms [.tup (us.map rt++[.tup [sD y,sD z]])] = some (.sh (.bl false)):=by
     have:=e_are (f:=fun o : Option W=>match o with | some w=>rt w | none=>.tup [sD y,sD z]) (p:=fun o : Option W=>match o with | some w=>tmB w | none=>false) (xs:=us.map some++[none]) (by have:=lb.1; simp at *; omega) (fun o ho=>by
      cases o with
      | none=>exact term_tup
      | some w=>exact e_term (lb'.2 w (by simpa using ho)))
     rw [List.map_append,List.map_map] at this
     refine Eq.trans this ?_
     simp
    have:=ah_last (xs:=us.map rt) (x:=.tup [sD y,sD z]) (by have:=lb.1; simp at *; omega) (grp_two hy (lb.2 z (by simp))) (e_are_rt lb') (fun _=>all2)
    refine Eq.trans this ?_
    rw [List.length_map]
    by_cases c : us.length + 1 <= 4
    ·rw [decide_eq_true c,decide_eq_true (show us.length <= 4 by omega)]
     cases vrB z <;> rfl
    ·rw [decide_eq_false c]; rfl
   ·have e1 : hT (us++[y,z]) = ((us++[y])++[z]).map rt:=by simp [hT,hz,hy]
    have e2 : okH (us++[y,z]) = (decide (((us++[y])++[z]).length <= 4) && ((us++[y])++[z]).all tmB):=by simp [okH,hz,hy]
    rw [e1,e2]
    exact plain (us++[y]) z (by simpa using lb)
def rD (hd : List W) (bd : List (List W)) : D:=.tup [sD (hd.head?.getD []),.tup (hT (hd.drop 1)),.tup (bd.map lD)]
def okR (hd : List W) (bd : List (List W)) : Bool:=nmB (hd.head?.getD []) && (okH (hd.drop 1) && okB bd)
structure Pt (hd : List W) (bd : List (List W)) : Prop where
 h1 : hd ≠ []
 lb : LB hd
 pn : ∀ p ∈ bd,p ≠ [] /\ LB p
 pl : bd.length <= 100
theorem Pt.hd {hd : List W} {bd : List (List W)} (h : Pt hd bd) : (hd.head?.getD []).length <= 100:=by
 have:=h.h1
 cases hd with
 | nil=>exact absurd rfl this
 | cons w r=>exact h.lb.2 w (by simp)
theorem Pt.rest {hd : List W} {bd : List (List W)} (h : Pt hd bd) : LB (hd.drop 1):=h.lb.sub (by simp) fun v hv=>List.drop_subset _ _ hv
theorem e_isrule_no {hd : List W} {bd : List (List W)} (h : Pt hd bd) (ok : okR hd bd = false) : M_is_rule [rD hd bd] = some (.sh (.bl false)):=by
 refine Op.eq ?_
 unfold M_is_rule fb_is_rule rD
 unfold okR at ok
 walk_at "wrun"
 walk_at "wp"
 refine ⟨rfl,?_⟩
 walk_at "wp"
 refine o_ixT (k:=0) rfl ?_
 walk_at "wp"
 refine op_of (e_name (Nat.le_trans h.hd (by decide))) ?_
 walk_at "wp"
 cases h1 : nmB (hd.head?.getD []) with
 | false=>walk_at "wp"; rfl
 | true=>
  rw [h1,Bool.true_and] at ok
  walk_at "wp"
  refine o_ixT (k:=1) rfl ?_
  walk_at "wp"
  refine op_of (e_heads h.rest) ?_
  walk_at "wp"
  cases h2 : okH (hd.drop 1) with
  | false=>walk_at "wp"; rfl
  | true=>
   rw [h2,Bool.true_and] at ok
   walk_at "wp"
   refine o_ixT (k:=2) rfl ?_
   walk_at "wp"
   refine op_of (e_isbody h.pn h.pl) ?_
   rw [ok]
   walk_at "wp"
   rfl
theorem e_isrule {hd : List W} {bd : List (List W)} {vs : List D} (h : Pt hd bd) (ok : okR hd bd = true) (hv : M_rule_variables [rD hd bd] = some (.fr (.lst vs))) : M_is_rule [rD hd bd] = some (.sh (.bl (decide (vs.length <= 4)))):=by
 unfold okR at ok
 rw [Bool.and_eq_true,Bool.and_eq_true] at ok
 obtain ⟨h1,h2,h3⟩:=ok
 refine Op.eq ?_
 unfold M_is_rule fb_is_rule
 have e : rD hd bd = .tup [sD (hd.head?.getD []),.tup (hT (hd.drop 1)),.tup (bd.map lD)]:=rfl
 rw [e] at hv ⊢
 walk_at "wrun"
 walk_at "wp"
 refine ⟨rfl,?_⟩
 walk_at "wp"
 refine o_ixT (k:=0) rfl ?_
 walk_at "wp"
 refine op_of (e_name (Nat.le_trans h.hd (by decide))) ?_
 rw [h1]
 walk_at "wp"
 refine o_ixT (k:=1) rfl ?_
 walk_at "wp"
 refine op_of (e_heads h.rest) ?_
 rw [h2]
 walk_at "wp"
 refine o_ixT (k:=2) rfl ?_
 walk_at "wp"
 refine op_of (e_isbody h.pn h.pl) ?_
 rw [h3]
 walk_at "wp"
 refine op_of hv ?_
 walk_at "wp"
 refine op_of (d:=.bl (decide (vs.length <= 4))) (by show some (D.bl (decide ((vs.length : Int) <= 4))) = _; congr 2; exact decide_eq_decide.mpr (by omega)) ?_
 rfl
def prs (ws : List W) : List W × List W:=(ptW ws).getD (ws,[[]])
theorem ptW_sub : ∀ {ws : List W} {p : List W × List W},ptW ws = some p->p.1.length <= ws.length /\ p.2.length <= ws.length /\ (∀ w ∈ p.1,w ∈ ws) /\ ∀ w ∈ p.2,w ∈ ws
 | [],_,h=>by simp [ptW] at h
 | [_],_,h=>by simp [ptW] at h
 | w::x::r,p,h=>by
  rw [ptW] at h
  split at h
  ·cases h
   exact ⟨by simp,by simp; omega,fun v hv=>by simp at hv; simp [hv],fun v hv=>by simp [hv]⟩
  ·obtain ⟨q,e,rfl⟩:=omE h
   obtain ⟨a1,a2,a3,a4⟩:=ptW_sub e
   refine ⟨by simp at *; omega,by simp at *; omega,fun v hv=>?_,fun v hv=>List.mem_cons_of_mem _ (a4 v hv)⟩
   rcases List.mem_cons.mp hv with rfl | hv
   ·exact List.mem_cons_self
   ·exact List.mem_cons_of_mem _ (a3 v hv)
theorem prs_tx {ws : List W} (h : Tx ws) : Tx (prs ws).1 /\ Tx (prs ws).2:=by
 unfold prs
 cases e : ptW ws with
 | none=>exact ⟨h,⟨by simp,fun w hw=>by simp at hw; subst hw; simp,fun w hw=>by simp at hw; subst hw; simp,by simp⟩⟩
 | some p=>
  obtain ⟨a1,a2,a3,a4⟩:=ptW_sub e
  obtain ⟨n1,n2⟩:=ptW_ne e
  exact ⟨⟨n1,fun w hw=>h.nb w (a3 w hw),fun w hw=>h.lb w (a3 w hw),Nat.le_trans a1 h.le⟩,⟨n2,fun w hw=>h.nb w (a4 w hw),fun w hw=>h.lb w (a4 w hw),Nat.le_trans a2 h.le⟩⟩
theorem bpW_sub : ∀ {ws : List W},(∀ w ∈ ws,w.length <= 40)->(bpW ws).length <= ws.length + 1 /\ ∀ p ∈ bpW ws,p.length <= ws.length /\ ∀ w ∈ p,w.length <= 40
 | [],_=>by simp [bpW]
 | [w],h=>by simp [bpW]; exact h w (by simp)
 | w::x::r,h=>by
  obtain ⟨a1,a2⟩:=bpW_sub (ws:=x::r) fun v hv=>h v (List.mem_cons_of_mem _ hv)
  have hw:=h w (by simp)
  rw [bpW]
  split
  ·refine ⟨by simp at *; omega,fun p hp=>?_⟩
   rcases List.mem_cons.mp hp with rfl | hp
   ·exact ⟨by simp,fun v hv=>by rw [List.mem_singleton.mp hv]; simp; omega⟩
   ·obtain ⟨b1,b2⟩:=a2 p hp
    exact ⟨by simp at *; omega,b2⟩
  ·cases e : bpW (x::r) with
   | nil=>exact ⟨by simp [consL],fun p hp=>by simp [consL] at hp; subst hp; exact ⟨by simp,fun v hv=>by rw [List.mem_singleton.mp hv]; exact hw⟩⟩
   | cons q qs=>
    rw [e] at a1 a2
    refine ⟨by simp [consL] at *; omega,fun p hp=>?_⟩
    rcases List.mem_cons.mp hp with rfl | hp
    ·obtain ⟨b1,b2⟩:=a2 q List.mem_cons_self
     exact ⟨by simp at *; omega,fun v hv=>(List.mem_cons.mp hv).elim (fun e=>e ▸ hw) (b2 v)⟩
    ·obtain ⟨b1,b2⟩:=a2 p (List.mem_cons_of_mem _ hp)
     exact ⟨by simp at *; omega,b2⟩
theorem pt_of {ws : List W} (h : Tx ws) : Pt (prs ws).1 (bpW (prs ws).2):=by
 obtain ⟨t1,t2⟩:=prs_tx h
 obtain ⟨b1,b2⟩:=bpW_sub t2.lb
 have:=t2.le
 exact ⟨t1.ne,t1.LB,fun p hp=>⟨(bpW_ne t2.ne).2 p hp,⟨by have:=(b2 p hp).1; omega,fun w hw=>Nat.le_trans ((b2 p hp).2 w hw) (by decide)⟩⟩,by omega⟩
theorem s_if : (" if " : Str) = S yIf:=by decide +kernel
theorem s_co : (", " : Str) = S yCo:=by decide +kernel
def ER (t : Str) (d1 d2 d3 d4 : D) : En:=[some (.sh (.str t)),some (.sh d1),some (.sh d2),some (.sh d3),some (.sh d4)]
theorem o_part {ws : List W} {R : D->Prop} (h : Tx ws) (k : ∀ b : D,R (.tup [sD (jB (prs ws).1),b,sD (jB (prs ws).2)])) : Op (partD (.str (S (jB ws))) (.str " if ")) R:=by
 have e : partD (.str (S (jB ws))) (.str " if ") = some (.tup ((partT (S (jB ws)) (S yIf)).map D.str)):=by
  rw [s_if]
  show (if _ /\ _ then _ else _) = _
  rw [if_pos ⟨rfl,by rw [S_len]; exact sl_big h.len⟩]
 rw [e,part_is (by decide),pt_jB h.ne h.nb]
 unfold prs at k
 cases hp : ptW ws with
 | none=>rw [hp] at k; exact op_some (k (.str (S [])))
 | some p=>rw [hp] at k; exact op_some (k (.str (S yIf)))
theorem rr_state {ws : List W} (h : Tx ws) : ∃ d1 d2 d3,fb_read_rule [some (.sh (.str (S (jB ws)))),none,none,none,none] =
  sSeq (sIf (bNot (fB (fPub (fCallR M_is_rule (fCons (fVar 4) fNil))))) (sSeq (sRaise "NoText" (fCons (fC (.str "this text is no rule")) fNil)) sNil) sNil) (sSeq (sRetV 4) sNil) (ER (S (jB ws)) d1 d2 d3 (rD (prs ws).1 (bpW (prs ws).2))):=by
 obtain ⟨t1,t2⟩:=prs_tx h
 have P:=pt_of h
 obtain ⟨b1,b2⟩:=bpW_sub t2.lb
 have bn:=bpW_nb t2.nb
 have l2:=t2.le
 obtain ⟨bb,e1⟩ : ∃ b,sSet 1 (f2 partD (fVar 0) (fC (.str " if "))) [some (.sh (.str (S (jB ws)))),none,none,none,none] = some (.nx [some (.sh (.str (S (jB ws)))),some (.sh (.tup [sD (jB (prs ws).1),b,sD (jB (prs ws).2)])),none,none,none]):=by
  have : So (sSet 1 (f2 partD (fVar 0) (fC (.str " if "))) [some (.sh (.str (S (jB ws)))),none,none,none,none]) (fun δ=>∃ b,δ = [some (.sh (.str (S (jB ws)))),some (.sh (.tup [sD (jB (prs ws).1),b,sD (jB (prs ws).2)])),none,none,none]) (fun _ _=>False):=by
   walk_at "wp"
   refine o_part h fun b=>?_
   walk_at "wp"
   exact ⟨b,rfl⟩
  obtain ⟨u,e,k⟩:=this
  cases u with
  | nx δ=>obtain ⟨b,rfl⟩:=k; exact ⟨b,e⟩
  | rt r δ=>exact k.elim
  | bk δ=>exact k.elim
  | ct δ=>exact k.elim
  | ex c δ=>exact k.elim
 refine ⟨.tup [sD (jB (prs ws).1),bb,sD (jB (prs ws).2)],.lst ((prs ws).1.map sD),.lst ((bpW (prs ws).2).map lD),?_⟩
 unfold fb_read_rule
 rw [seq_nx e1]
 rw [seq_nx (δ':=[some (.sh (.str (S (jB ws)))),some (.sh (.tup [sD (jB (prs ws).1),bb,sD (jB (prs ws).2)])),some (.sh (.lst ((prs ws).1.map sD))),none,none])]
 ·rw [seq_nx (δ':=[some (.sh (.str (S (jB ws)))),some (.sh (.tup [sD (jB (prs ws).1),bb,sD (jB (prs ws).2)])),some (.sh (.lst ((prs ws).1.map sD))),some (.sh (.lst ((bpW (prs ws).2).map lD))),none])]
  ·rw [seq_nx (δ':=ER (S (jB ws)) (.tup [sD (jB (prs ws).1),bb,sD (jB (prs ws).2)]) (.lst ((prs ws).1.map sD)) (.lst ((bpW (prs ws).2).map lD)) (rD (prs ws).1 (bpW (prs ws).2)))]
   refine so_eq ?_
   unfold rD
   have lr:=P.rest
   have hn:=P.h1
   generalize (prs ws).1 = hd at *
   cases hd with
   | nil=>exact absurd rfl hn
   | cons w0 r=>
    walk_at "wp"
    refine o_ixL (k:=0) rfl ?_
    walk_at "wp"
    rw [List.map_cons,cut_1]
    refine op_of (e_head (r:=r) lr) ?_
    walk_at "wp"
    refine ⟨(by show (3 : Nat) <= sizeLine; decide),?_⟩
    walk_at "wp"
    rfl
  ·refine so_eq ?_
   walk_at "wp"
   refine op_split ?_
   walk_at "wp"
   refine o_ixT (k:=2) rfl ?_
   walk_at "wp"
   refine o_split s_co (by decide) (by decide) t2.len ?_
   rw [co_jB t2.ne t2.nb,List.map_map]
   walk_at "wp"
   refine ⟨sl_big (by rw [List.length_map]; omega),op_compY (k:=sD ∘ jB) (hh:=lD) (fun p hp=>?_) ?_⟩
   ·walk_at "wp"
    refine op_of (e_lit (p:=p) (P.pn p hp).1 (bn p hp) (P.pn p hp).2 (by have:=jB_len40 (b2 p hp).2; have:=(b2 p hp).1; omega)) ?_
    walk_at "wp"
    rfl
   ·walk_at "wp"
    rfl
 ·refine so_eq ?_
  walk_at "wp"
  refine op_split ?_
  walk_at "wp"
  refine o_ixT (k:=0) rfl ?_
  walk_at "wp"
  refine o_split blank_is (by decide) (by decide) t1.len ?_
  rw [sp_jB t1.ne t1.nb]
  walk_at "wp"
  rfl
theorem rr_cond {t : Str} {d1 d2 d3 d4 : D} {b : Bool} (h : M_is_rule [d4] = some (.sh (.bl b))) : bNot (fB (fPub (fCallR M_is_rule (fCons (fVar 4) fNil)))) (ER t d1 d2 d3 d4) = some (!b):=by
 refine Op.eq ?_
 unfold ER
 walk_at "wp"
 refine op_of h ?_
 walk_at "wp"
 rfl
theorem rr_no {ws : List W} (h : Tx ws) (ok : M_is_rule [rD (prs ws).1 (bpW (prs ws).2)] = some (.sh (.bl false))) : ∃ δ,fb_read_rule [some (.sh (.str (S (jB ws)))),none,none,none,none] = some (.ex noT δ):=by
 obtain ⟨d1,d2,d3,e⟩:=rr_state h
 refine ⟨ER (S (jB ws)) d1 d2 d3 (rD (prs ws).1 (bpW (prs ws).2)),?_⟩
 rw [e]
 refine seq_ex ?_
 rw [if_t (by rw [rr_cond ok]; rfl)]
 exact seq_ex (raise_eq rfl (by show 1 <= sizeLine; decide))
theorem rr_ok {ws : List W} (h : Tx ws) (ok : M_is_rule [rD (prs ws).1 (bpW (prs ws).2)] = some (.sh (.bl true))) : M_read_rule [.str (S (jB ws))] = some (.sh (rD (prs ws).1 (bpW (prs ws).2))):=by
 obtain ⟨d1,d2,d3,e⟩:=rr_state h
 have e2 : fb_read_rule [some (.sh (.str (S (jB ws)))),none,none,none,none] = some (.rt (.sh (rD (prs ws).1 (bpW (prs ws).2))) (ER (S (jB ws)) d1 d2 d3 (rD (prs ws).1 (bpW (prs ws).2)))):=by
  rw [e,seq_nx (δ':=ER (S (jB ws)) d1 d2 d3 (rD (prs ws).1 (bpW (prs ws).2)))]
  ·exact seq_rt rfl
  ·rw [if_f (by rw [rr_cond ok]; rfl)]
   rfl
 unfold M_read_rule runF
 rw [if_pos (show [D.str (S (jB ws))].length = 1 from rfl)]
 show (match fb_read_rule [some (.sh (.str (S (jB ws)))),none,none,none,none] with | some (.rt d _)=>some d | some (.nx _)=>some (.sh .non) | _=>none) = _
 rw [e2]
structure Nil (w : W) : Prop where
 nm : nmB w = false
 vr : vrB w = false
 nu : numB w = false
 kw : w ∉ kws
theorem Nil.tm {w : W} (h : Nil w) : tmB w = false:=by unfold tmB; rw [h.nm,h.vr,h.nu]; rfl
theorem Nil.cn {w : W} (h : Nil w) : cnB w = false:=by unfold cnB; rw [h.nm,h.nu]; rfl
theorem Nil.ne {w k : W} (h : Nil w) (hk : k ∈ kws) : w ≠ k:=fun e=>h.kw (e ▸ hk)
theorem Nil.u {w : W} (h : Nil w) : isU w = false:=by
 unfold isU
 rw [decide_eq_false (h.ne (by decide)),decide_eq_false (h.ne (by decide))]; rfl
theorem all_no {p : W->Bool} {w : W} {ws : List W} (hw : w ∈ ws) (h : p w = false) : ws.all p = false:=by
 cases e : ws.all p with
 | false=>rfl
 | true=>rw [List.all_eq_true.mp e w hw] at h; cases h
structure Dead (w : W) : Prop where
 a : Nil w
 b : w.getLast? = some 44->Nil w.dropLast
theorem okH_no {r : List W} {w : W} (h : Nil w) (hw : w ∈ r) : okH r = false:=by
 have hz : w ≠ wCount:=h.ne (by decide)
 unfold okH
 have hm : w ∈ r.reverse:=by simpa using hw
 cases e : r.reverse with
 | nil=>rw [e] at hm; cases hm
 | cons z us=>
  rw [e] at hm
  dsimp only
  by_cases c : z = wCount
  ·rw [if_pos c]
   rcases List.mem_cons.mp hm with rfl | hm
   ·exact absurd c hz
   ·rw [all_no (p:=tmB) (by simpa using hm) h.tm,Bool.and_false]
  ·rw [if_neg c]
   cases us with
   | nil=>dsimp only; rw [all_no hw h.tm,Bool.and_false]
   | cons y vs=>
    dsimp only
    by_cases d : y = wSum \/ y = wLeast
    ·rw [if_pos d]
     rcases List.mem_cons.mp hm with rfl | hm
     ·rw [h.vr]; simp
     ·rcases List.mem_cons.mp hm with rfl | hm
      ·rcases d with d | d
       ·exact absurd d (h.ne (by decide))
       ·exact absurd d (h.ne (by decide))
      ·rw [all_no (p:=tmB) (by simpa using hm) h.tm]; simp
    ·rw [if_neg d,all_no hw h.tm,Bool.and_false]
theorem okLit_no {p : List W} {w : W} (h : Nil w) (hw : w ∈ p) : okLit p = false:=by
 cases p with
 | nil=>cases hw
 | cons x r=>
  rw [okLit_cons]
  rcases List.mem_cons.mp hw with rfl | hr
  ·rw [h.u,if_neg Bool.false_ne_true,if_neg (h.ne (by decide)),h.nm]; rfl
  ·by_cases hu : isU x = true
   ·rw [if_pos hu]
    match r,hr with
    | [a,b],hr=>
     rcases List.mem_cons.mp hr with rfl | hr
     ·dsimp only; rw [h.tm]; rfl
     ·rw [List.mem_singleton] at hr; subst hr; dsimp only; rw [h.tm,Bool.and_false]
    | [a],_=>rfl
    | a::b::c::r,_=>rfl
   ·rw [if_neg hu]
    by_cases hn : x = wNot
    ·rw [if_pos hn]
     cases r with
     | nil=>cases hr
     | cons a r=>
      rcases List.mem_cons.mp hr with rfl | hr
      ·show (nmB w && _) = false; rw [h.nm]; rfl
      ·rw [all_no (ws:=(a::r).drop 1) (p:=tmB) (by simpa using hr) h.tm]; simp
    ·rw [if_neg hn,all_no hr h.tm]; simp
theorem ptW_has : ∀ {ws : List W} {p : List W × List W},ptW ws = some p->∀ w ∈ ws,w ≠ wIf->w ∈ p.1 \/ w ∈ p.2
 | [],_,h=>by simp [ptW] at h
 | [_],_,h=>by simp [ptW] at h
 | x::y::r,p,h=>by
  rw [ptW] at h
  intro w hw hn
  split at h
  ·rename_i c
   cases h
   rcases List.mem_cons.mp hw with rfl | hw
   ·left; simp
   ·rcases List.mem_cons.mp hw with rfl | hw
    ·exact absurd c.1 hn
    ·right; exact hw
  ·obtain ⟨q,e,rfl⟩:=omE h
   rcases List.mem_cons.mp hw with rfl | hw
   ·left; simp
   ·rcases ptW_has e w hw hn with h | h
    ·left; exact List.mem_cons_of_mem _ h
    ·right; exact h
theorem bpW_has : ∀ {ws : List W},∀ w ∈ ws,∃ p ∈ bpW ws,w ∈ p \/ (w.getLast? = some 44 /\ w.dropLast ∈ p)
 | [],w,h=>by cases h
 | [x],w,h=>⟨[x],by simp [bpW],.inl h⟩
 | x::y::r,w,h=>by
  rw [bpW]
  have ih:=bpW_has (ws:=y::r)
  split
  ·rename_i c
   rcases List.mem_cons.mp h with rfl | h
   ·exact ⟨[w.dropLast],by simp,.inr ⟨c,by simp⟩⟩
   ·obtain ⟨p,hp,k⟩:=ih w h
    exact ⟨p,List.mem_cons_of_mem _ hp,k⟩
  ·cases e : bpW (y::r) with
   | nil=>exact absurd e (bpW_ne (by simp)).1
   | cons q qs=>
    rcases List.mem_cons.mp h with rfl | h
    ·exact ⟨w::q,by simp [consL],.inl (by simp)⟩
    ·obtain ⟨p,hp,k⟩:=ih w h
     rw [e] at hp
     rcases List.mem_cons.mp hp with rfl | hp
     ·refine ⟨x::p,by simp [consL],?_⟩
      rcases k with k | ⟨k1,k2⟩
      ·exact .inl (List.mem_cons_of_mem _ k)
      ·exact .inr ⟨k1,List.mem_cons_of_mem _ k2⟩
     ·exact ⟨p,by simp [consL,hp],k⟩
theorem okR_h {hd : List W} {bd : List (List W)} (h : okH (hd.drop 1) = false) : okR hd bd = false:=by unfold okR; rw [h]; simp
theorem okR_b {hd : List W} {bd : List (List W)} (h : okB bd = false) : okR hd bd = false:=by unfold okR; rw [h]; simp
theorem okR_n {hd : List W} {bd : List (List W)} (h : nmB (hd.head?.getD []) = false) : okR hd bd = false:=by unfold okR; rw [h]; rfl
theorem okB_l {ps : List (List W)} {p : List W} (hp : p ∈ ps) (h : okLit p = false) : okB ps = false:=by
 unfold okB
 have : ps.all okLit = false:=by
  cases e : ps.all okLit with
  | false=>rfl
  | true=>rw [List.all_eq_true.mp e p hp] at h; cases h
 rw [this]; simp
theorem dead_R {ws : List W} {w : W} (h : Dead w) (hw : w ∈ ws) (hn : ws ≠ []) : okR (prs ws).1 (bpW (prs ws).2) = false:=by
 have main : ∀ hd bd : List W,hd ≠ []->(w ∈ hd \/ w ∈ bd)->okR hd (bpW bd) = false:=by
  intro hd bd hn hw
  rcases hw with hw | hw
  ·cases hd with
   | nil=>exact absurd rfl hn
   | cons x r=>
    rcases List.mem_cons.mp hw with rfl | hw
    ·exact okR_n h.a.nm
    ·exact okR_h (okH_no h.a hw)
  ·obtain ⟨p,hp,k⟩:=bpW_has w hw
   refine okR_b (okB_l hp ?_)
   rcases k with k | ⟨k1,k2⟩
   ·exact okLit_no h.a k
   ·exact okLit_no (h.b k1) k2
 unfold prs
 cases e : ptW ws with
 | none=>exact main ws [[]] hn (.inl hw)
 | some p=>exact main p.1 p.2 (ptW_ne e).1 (ptW_has e w hw (h.a.ne (by decide)))
theorem dead_F {ws : List W} {w : W} (h : Dead w) (hw : w ∈ ws) : okF ws = false:=by
 cases ws with
 | nil=>rfl
 | cons x r=>
  show (nmB x && decide (r.length <= 4) && r.all cnB) = false
  rcases List.mem_cons.mp hw with rfl | hw
  ·rw [h.a.nm]; rfl
  ·rw [all_no hw h.a.cn,Bool.and_false]
def badC (c : Nat) : Bool:=!(smallC c) && !(bigC c) && !(figC c) && !(c == 45) && !(c == 44) && !(c == 32)
theorem bad_is {c : Nat} (h : badC c = true) : smallC c = false /\ bigC c = false /\ figC c = false /\ c ≠ 45 /\ c ≠ 44 /\ c ≠ 32:=by
 unfold badC at h
 simp only [Bool.and_eq_true,Bool.not_eq_true',beq_eq_false_iff_ne] at h
 obtain ⟨⟨⟨⟨⟨h1,h2⟩,h3⟩,h4⟩,h5⟩,h6⟩:=h
 exact ⟨h1,h2,h3,h4,h5,h6⟩
theorem nat_no {p : Nat->Bool} {c : Nat} {w : W} (hw : c ∈ w) (h : p c = false) : w.all p = false:=by
 cases e : w.all p with
 | false=>rfl
 | true=>rw [List.all_eq_true.mp e c hw] at h; cases h
theorem nil_bad {w : W} {c : Nat} (hc : c ∈ w) (hb : badC c = true) : Nil w:=by
 obtain ⟨h1,h2,h3,h4,h5,h6⟩:=bad_is hb
 refine ⟨?_,?_,?_,?_⟩
 ·unfold nmB; rw [nat_no hc h1,Bool.and_false]
 ·unfold vrB; rw [nat_no hc (show anC c = false by unfold anC; rw [h1,h2,h3]; rfl),Bool.and_false]
 ·have hf : c ∈ figs w:=by
   unfold figs
   split
   ·rcases List.mem_cons.mp hc with e | hc
    ·exact absurd e h4
    ·exact hc
   ·exact hc
  unfold numB
  rw [nat_no hf h3]; simp
 ·intro hk
  have : ∀ k ∈ kws,k.all smallC = true:=by decide
  exact absurd (this w hk) (by rw [nat_no hc h1]; exact Bool.false_ne_true)
theorem dead_bad {u v : W} {c : Nat} (hb : badC c = true) : Dead (u++c::v):=by
 refine ⟨nil_bad (c:=c) (by simp) hb,fun h=>?_⟩
 refine nil_bad (c:=c) ?_ hb
 cases hv : v with
 | nil=>subst hv; simp at h; exact absurd h (bad_is hb).2.2.2.2.1
 | cons d v=>
  rw [List.dropLast_append_of_ne_nil (by simp)]
  simp
theorem dead_nil : Dead []:=⟨⟨rfl,rfl,rfl,by decide⟩,by simp⟩
theorem ins_word : ∀ {ws : List W} {k c : Nat},ws ≠ []->k <= (jB ws).length->∃ xs u v ys,ws = xs++(u++v)::ys /\ (jB ws).take k++c::(jB ws).drop k = jB (xs++(u++c::v)::ys)
 | [w],k,c,_,h=>by
  refine ⟨[],w.take k,w.drop k,[],by simp,?_⟩
  simp [jB]
 | w::x::r,k,c,_,h=>by
  by_cases hk : k <= w.length
  ·refine ⟨[],w.take k,w.drop k,x::r,by simp,?_⟩
   simp only [jB,List.nil_append]
   rw [List.take_append_of_le_length hk,List.drop_append_of_le_length hk]
   simp
  ·have h2 : k - (w.length + 1) <= (jB (x::r)).length:=by simp [jB] at h; omega
   obtain ⟨xs,u,v,ys,e1,e2⟩:=ins_word (ws:=x::r) (k:=k - (w.length + 1)) (c:=c) (by simp) h2
   refine ⟨w::xs,u,v,ys,by rw [e1]; rfl,?_⟩
   have : jB (w::(xs++(u++c::v)::ys)) = w++32::jB (xs++(u++c::v)::ys):=by cases xs <;> rfl
   rw [List.cons_append,this,<- e2]
   have k1 : k = w.length + (1 + (k - (w.length + 1))):=by omega
   have t1 : (jB (w::x::r)).take k = w++32::(jB (x::r)).take (k - (w.length + 1)):=by
    rw [jB]
    conv=>lhs; rw [k1]
    rw [List.take_length_add_append,show 1 + (k - (w.length + 1)) = (k - (w.length + 1)) + 1 by omega,List.take_succ_cons]
   have t2 : (jB (w::x::r)).drop k = (jB (x::r)).drop (k - (w.length + 1)):=by
    rw [jB]
    conv=>lhs; rw [k1]
    rw [List.drop_length_add_append,show 1 + (k - (w.length + 1)) = (k - (w.length + 1)) + 1 by omega,List.drop_succ_cons]
   rw [t1,t2]
   simp
theorem jB_app : ∀ {xs ys : List W},xs ≠ []->ys ≠ []->jB (xs++ys) = jB xs++32::jB ys
 | [w],y::ys,_,_=>rfl
 | w::x::r,ys,_,h=>by
  have:=jB_app (xs:=x::r) (ys:=ys) (by simp) h
  rw [List.cons_append,List.cons_append] at *
  rw [jB,this,jB]
  simp
theorem jB_gap {xs ys : List W} (hx : xs ≠ []) (hy : ys ≠ []) : jB (xs++[]::ys) = jB xs++[32,32]++jB ys:=by
 rw [jB_app hx (by simp)]
 cases ys with
 | nil=>exact absurd rfl hy
 | cons y ys=>simp [jB]
theorem ref_tail {F : FS} {t : Str} {w : D} (h : F [some (.sh (.str t)),some (.sh w),some (.sh (.bl false)),none] = some (.ex noT [none,none,none,none])) :
  sSeq (sTry ["NoText"] 3 F (sSeq (sSet 2 (fAnd (fIsOb 3 [("NoText",true)]) (fIsOb 3 [("NoText",true)]))) (sSeq (sSet 2 (fAnd (fVar 2) (fNot (fIsOb 3 [("NoText",false)])))) sNil))) (sSeq (sRetV 2) sNil) [some (.sh (.str t)),some (.sh w),some (.sh (.bl false)),none] = some (.rt (.sh (.bl true)) [none,none,some (.sh (.bl true)),none]):=by
 rw [seq_nx (δ':=[none,none,some (.sh (.bl true)),none])]
 ·rfl
 ·unfold sTry
  rw [h]
  rfl
theorem drop_ex {M : List D->Option Rs} {Mx : List Sl->Option Ex} {t : Str} {w : D} {c : Ex} (h1 : M [.str t] = none) (h2 : Mx [.sh (.str t)] = some c) :
  sOr (sDrop (xD (fPub (fCallR M (fCons (fVar 0) fNil))))) (sDropE Mx [.val (fVar 0)]) [some (.sh (.str t)),some (.sh w),some (.sh (.bl false)),none] = some (.ex c [none,none,none,none]):=by
 have a : sDrop (xD (fPub (fCallR M (fCons (fVar 0) fNil)))) [some (.sh (.str t)),some (.sh w),some (.sh (.bl false)),none] = none:=by
  show ((((M [.str t]).map Rs.d).map fun d=>(d,_)).map _) = none
  rw [h1]; rfl
 have b : sDropE Mx [.val (fVar 0)] [some (.sh (.str t)),some (.sh w),some (.sh (.bl false)),none] = some (.ex c [none,none,none,none]):=by
  unfold sDropE
  show ((some [Ag.v (.str t)]).bind fun ags=>(outE Mx ags).map fun c=>Out.ex c _) = _
  rw [Option.bind_some,outE_eq (c:=c) (fun as ha=>by
   match as,ha with
   | [x],_=>exact h2)]
  rfl
 unfold sOr
 rw [a,b]
 rfl
theorem mx_fact {ws : List W} (h : Tx ws) (ok : okF ws = false) : M_read_fact [.str (S (jB ws))] = none /\ Mx_read_fact [.sh (.str (S (jB ws)))] = some noT:=by
 have e:=rf_no h ok
 constructor
 ·unfold M_read_fact runF
  rw [if_pos (show [D.str (S (jB ws))].length = 1 from rfl)]
  show (match fb_read_fact [some (.sh (.str (S (jB ws)))),none,none] with | some (.rt d _)=>some d | some (.nx _)=>some (.sh .non) | _=>none) = _
  rw [e]
 ·unfold Mx_read_fact runE
  rw [if_pos (show [Sl.sh (D.str (S (jB ws)))].length = 1 from rfl)]
  show (match fb_read_fact [some (.sh (.str (S (jB ws)))),none,none] with | some (.ex c _)=>some c | _=>none) = _
  rw [e]
theorem mx_rule {ws : List W} (h : Tx ws) (ok : M_is_rule [rD (prs ws).1 (bpW (prs ws).2)] = some (.sh (.bl false))) : M_read_rule [.str (S (jB ws))] = none /\ Mx_read_rule [.sh (.str (S (jB ws)))] = some noT:=by
 obtain ⟨δ,e⟩:=rr_no h ok
 constructor
 ·unfold M_read_rule runF
  rw [if_pos (show [D.str (S (jB ws))].length = 1 from rfl)]
  show (match fb_read_rule [some (.sh (.str (S (jB ws)))),none,none,none,none] with | some (.rt d _)=>some d | some (.nx _)=>some (.sh .non) | _=>none) = _
  rw [e]
 ·unfold Mx_read_rule runE
  rw [if_pos (show [Sl.sh (D.str (S (jB ws)))].length = 1 from rfl)]
  show (match fb_read_rule [some (.sh (.str (S (jB ws)))),none,none,none,none] with | some (.ex c _)=>some c | _=>none) = _
  rw [e]
theorem ref_0 {ws : List W} (h : Tx ws) (ok : okF ws = false) : M__law_refused [.str (S (jB ws)),.int 0] = some (.sh (.bl true)):=by
 obtain ⟨h1,h2⟩:=mx_fact h ok
 have e : fb__law_refused [some (.sh (.str (S (jB ws)))),some (.sh (.int 0)),none,none] = some (.rt (.sh (.bl true)) [none,none,some (.sh (.bl true)),none]):=by
  unfold fb__law_refused
  rw [seq_nx (δ':=[some (.sh (.str (S (jB ws)))),some (.sh (.int 0)),some (.sh (.bl false)),none]) rfl]
  refine ref_tail ?_
  refine seq_ex ?_
  rw [if_t rfl]
  exact seq_ex (drop_ex h1 h2)
 unfold M__law_refused runF
 rw [if_pos (show [D.str (S (jB ws)),D.int 0].length = 2 from rfl)]
 show (match fb__law_refused [some (.sh (.str (S (jB ws)))),some (.sh (.int 0)),none,none] with | some (.rt d _)=>some d | some (.nx _)=>some (.sh .non) | _=>none) = _
 rw [e]
theorem ref_1 {ws : List W} (h : Tx ws) (ok : M_is_rule [rD (prs ws).1 (bpW (prs ws).2)] = some (.sh (.bl false))) : M__law_refused [.str (S (jB ws)),.int 1] = some (.sh (.bl true)):=by
 obtain ⟨h1,h2⟩:=mx_rule h ok
 have e : fb__law_refused [some (.sh (.str (S (jB ws)))),some (.sh (.int 1)),none,none] = some (.rt (.sh (.bl true)) [none,none,some (.sh (.bl true)),none]):=by
  unfold fb__law_refused
  rw [seq_nx (δ':=[some (.sh (.str (S (jB ws)))),some (.sh (.int 1)),some (.sh (.bl false)),none]) rfl]
  refine ref_tail ?_
  refine seq_ex ?_
  rw [if_f rfl]
  exact seq_ex (drop_ex h1 h2)
 unfold M__law_refused runF
 rw [if_pos (show [D.str (S (jB ws)),D.int 1].length = 2 from rfl)]
 show (match fb__law_refused [some (.sh (.str (S (jB ws)))),some (.sh (.int 1)),none,none] with | some (.rt d _)=>some d | some (.nx _)=>some (.sh .non) | _=>none) = _
 rw [e]
theorem S_app {p q : W} : S p++S q = S (p++q):=by
 show (⟨p.toArray++q.toArray⟩ : Str) = ⟨(p++q).toArray⟩
 simp
theorem add_S {p q : W} {R : D->Prop} (h : p.length + q.length <= 9000) (k : R (.str (S (p++q)))) : Op (addD (.str (S p)) (.str (S q))) R:=by
 refine op_of (add_str (by rw [S_len,S_len,sizeLine_eq]; omega)) ?_
 rw [S_app]; exact k
theorem join_S {ws : List W} {R : D->Prop} (hn : ws ≠ []) (h : Tx ws) (k : R (.str (S (jB ws)))) : Op (joinD (.str " ") (.lst (ws.map sD))) R:=by
 refine op_of ?_ k
 have e : ∀ l : List W,strsD (l.map sD) = some (l.map S):=by
  intro l
  induction l with
  | nil=>rfl
  | cons x l ih=>rw [List.map_cons]; show (strsD (l.map sD)).map (S x::·) = _; rw [ih]; rfl
 have s : ∀ l : List W,(∀ w ∈ l,w.length <= 40)->((l.map S).map fun y=>y.length).sum <= 40 * l.length:=by
  intro l
  induction l with
  | nil=>intro _; simp
  | cons x l ih=>
   intro hl
   have h1:=hl x (by simp)
   have h2:=ih fun w hw=>hl w (List.mem_cons_of_mem _ hw)
   simp only [List.map_cons,List.sum_cons,List.length_cons]
   rw [S_len]
   omega
 have g : ∀ (l : List W) (a : W),(l.map S).foldl (fun acc p=>acc++(S [32]).cps++p.cps) a.toArray = (a++l.flatMap (32::·)).toArray:=by
  intro l
  induction l with
  | nil=>intro a; simp
  | cons x l ih=>
   intro a
   rw [List.map_cons,List.foldl_cons]
   have : a.toArray++(S [32]).cps++(S x).cps = (a++32::x).toArray:=by simp
   rw [this,ih]
   simp
 have j : ∀ (l : List W) (w : W),jB (w::l) = w++l.flatMap (32::·):=by
  intro l
  induction l with
  | nil=>intro w; simp [jB]
  | cons x l ih=>intro w; rw [jB,ih]; simp
 rw [blank_is]
 show (strsD (ws.map sD)).bind _ = _
 rw [e,Option.bind_some,if_pos]
 ·congr 2
  show Builtin.Str.glued (S [32]) (ws.map S) = _
  cases ws with
  | nil=>exact absurd rfl hn
  | cons w l=>
   unfold Builtin.Str.glued
   rw [j]
   show (⟨((S w::l.map S).drop 1).foldl _ (S w).cps⟩ : Str) = _
   rw [List.drop_succ_cons,List.drop_zero]
   exact congrArg Str.mk (g l w)
 ·have:=s ws h.lb
  have:=h.le
  rw [List.length_map,S_len]
  simp only [List.length_cons,List.length_nil]
  omega
def puncts : W:=[33,34,35,36,38,39,40,41,42,43,46,47,58,59,60,61,62,63,64,91,93,94,95,96,123,124,125,126]
theorem s_punct : ("!\"#$&'()*+./:;<=>?\x40[]^_`{|}~" : Str) = S puncts:=by decide +kernel
theorem punct_bad : ∀ c ∈ puncts,badC c = true:=by decide
theorem punct_len : ∀ c ∈ puncts,c ≠ 32:=by decide
theorem cut_to (xs : List D) (k : Nat) (h : k <= xs.length) : L2.cutD xs none (some (k : Int)) = xs.take k:=by
 unfold L2.cutD
 have e1 : HT.sIx xs.length 0 none = 0:=rfl
 have e2 : HT.sIx xs.length xs.length (some (k : Int)) = k:=by simp [HT.sIx]; rw [if_neg (by omega)]; omega
 rw [e1,e2]; simp
theorem cut_from (xs : List D) (k : Nat) (h : k <= xs.length) : L2.cutD xs (some (k : Int)) none = xs.drop k:=by
 unfold L2.cutD
 have e1 : HT.sIx xs.length 0 (some (k : Int)) = k:=by simp [HT.sIx]; rw [if_neg (by omega)]; omega
 have e2 : HT.sIx xs.length xs.length none = xs.length:=rfl
 rw [e1,e2]
 rw [List.take_of_length_le (by simp)]
structure Tx0 (ws : List W) : Prop where
 ne : 2 <= ws.length
 nb : NB ws
 lb : ∀ w ∈ ws,w.length <= 30
 le : ws.length <= 20
theorem Tx0.tx {ws : List W} (h : Tx0 ws) : Tx ws:=⟨fun e=>by have:=h.ne; rw [e] at this; simp at this,h.nb,fun w hw=>Nat.le_trans (h.lb w hw) (by decide),Nat.le_trans h.le (by decide)⟩
theorem Tx0.mid {ws xs ys : List W} {v w : W} (h : Tx0 ws) (e : ws = xs++v::ys) (nb : 32 ∉ w) (lb : w.length <= 40) : Tx (xs++w::ys):=by
 subst e
 refine ⟨by simp,fun x hx=>?_,fun x hx=>?_,?_⟩
 ·simp at hx
  rcases hx with hx | rfl | hx
  ·exact h.nb x (by simp [hx])
  ·exact nb
  ·exact h.nb x (by simp [hx])
 ·simp at hx
  rcases hx with hx | rfl | hx
  ·exact Nat.le_trans (h.lb x (by simp [hx])) (by decide)
  ·exact lb
  ·exact Nat.le_trans (h.lb x (by simp [hx])) (by decide)
 ·have:=h.le; simp at *; omega
theorem Tx0.add {ws xs ys : List W} (h : Tx0 ws) (e : ws = xs++ys) : Tx (xs++[]::ys):=by
 subst e
 refine ⟨by simp,fun x hx=>?_,fun x hx=>?_,?_⟩
 ·simp at hx
  rcases hx with hx | rfl | hx
  ·exact h.nb x (by simp [hx])
  ·simp
  ·exact h.nb x (by simp [hx])
 ·simp at hx
  rcases hx with hx | rfl | hx
  ·exact Nat.le_trans (h.lb x (by simp [hx])) (by decide)
  ·simp
  ·exact Nat.le_trans (h.lb x (by simp [hx])) (by decide)
 ·have:=h.le; simp at *; omega
theorem e_spoiled {ws : List W} (h : Tx0 ws) (x y : Int) : ∃ vs w,M__law_spoiled [.str (S (jB ws)),.int x,.int y] = some (.sh (.str (S (jB vs)))) /\ Tx vs /\ Dead w /\ w ∈ vs:=by
 have hlen:=h.tx.len
 have key : Op (M__law_spoiled [.str (S (jB ws)),.int x,.int y]) fun r=>∃ vs w,r = .sh (.str (S (jB vs))) /\ Tx vs /\ Dead w /\ w ∈ vs:=by
  unfold M__law_spoiled fb__law_spoiled
  walk_at "wrun"
  walk_at "wp"
  refine len_S hlen ?_
  walk_at "wp"
  obtain ⟨k,ek,hk⟩ : ∃ k : Nat,x / 3 % (((jB ws).length : Int) + 1) = k /\ k <= (jB ws).length:=by
   have h1:=Int.emod_nonneg (x / 3) (show ((jB ws).length : Int) + 1 ≠ 0 by omega)
   have h2:=Int.emod_lt_of_pos (x / 3) (show 0 < ((jB ws).length : Int) + 1 by omega)
   exact ⟨(x / 3 % (((jB ws).length : Int) + 1)).toNat,by omega,by omega⟩
  rw [ek]
  refine o_cond (fun c=>?_) fun c=>?_
  ·walk_at "wp"
   refine op_slS ?_
   walk_at "wp"
   refine ⟨_,rfl,by rw [S_len]; exact sl_big hlen,?_⟩
   rw [slice_take hk]
   walk_at "wp"
   rw [s_punct]
   have hy0:=Int.emod_nonneg y (show (28 : Int) ≠ 0 by decide)
   have hy1:=Int.emod_lt_of_pos y (show (0 : Int) < 28 by decide)
   refine o_ixS (by rw [S_len]; decide) hy0 (by rw [S_len]; exact hy1) fun c hc=>?_
   have hc : c ∈ puncts:=by simpa using hc
   refine add_S (q:=[c]) (by simp; omega) ?_
   refine op_slS ?_
   walk_at "wp"
   refine ⟨_,rfl,by rw [S_len]; exact sl_big hlen,?_⟩
   rw [slice_drop hk]
   refine add_S (by simp; omega) ?_
   obtain ⟨xs,u,v,ys,e1,e2⟩:=ins_word (c:=c) h.tx.ne hk
   refine ⟨xs++(u++c::v)::ys,u++c::v,?_,h.mid e1 ?_ ?_,dead_bad (punct_bad c hc),by simp⟩
   ·rw [<- e2]; simp
   ·have:=h.nb (u++v) (by rw [e1]; simp)
    intro hm
    simp at hm this
    rcases hm with hm | hm | hm
    ·exact this.1 hm
    ·exact punct_len c hc hm.symm
    ·exact this.2 hm
   ·have:=h.lb (u++v) (by rw [e1]; simp)
    simp at *; omega
  ·walk_at "wp"
   refine o_cond (fun c1=>?_) fun c1=>?_
   ·walk_at "wp"
    refine op_split ?_
    walk_at "wp"
    refine o_split blank_is (by decide) (by decide) hlen ?_
    rw [sp_jB h.tx.ne h.nb]
    walk_at "wp"
    rw [List.length_map]
    have hne:=h.ne
    refine o_mod (by omega) ?_
    walk_at "wp"
    obtain ⟨m,em,hm1,hm2⟩ : ∃ m : Nat,1 + x / 3 % ((ws.length : Int) - 1) = m /\ 1 <= m /\ m < ws.length:=by
     have h1:=Int.emod_nonneg (x / 3) (show (ws.length : Int) - 1 ≠ 0 by omega)
     have h2:=Int.emod_lt_of_pos (x / 3) (show 0 < (ws.length : Int) - 1 by omega)
     exact ⟨(1 + x / 3 % ((ws.length : Int) - 1)).toNat,by omega,by omega,by omega⟩
    rw [em,cut_to _ _ (by rw [List.length_map]; omega),<- List.map_take]
    have t1 : Tx (ws.take m):=⟨fun e=>by have:=congrArg List.length e; rw [List.length_take,List.length_nil] at this; omega,fun w hw=>h.nb w (List.take_subset _ _ hw),fun w hw=>Nat.le_trans (h.lb w (List.take_subset _ _ hw)) (by decide),by have:=h.le; simp; omega⟩
    have t2 : Tx (ws.drop m):=⟨fun e=>by have:=congrArg List.length e; simp at this; omega,fun w hw=>h.nb w (List.drop_subset _ _ hw),fun w hw=>Nat.le_trans (h.lb w (List.drop_subset _ _ hw)) (by decide),by have:=h.le; simp; omega⟩
    refine join_S t1.ne t1 ?_
    walk_at "wp"
    have s2 : ("  " : Str) = S [32,32]:=by decide +kernel
    rw [s2]
    refine add_S (by have:=t1.len; simp; omega) ?_
    walk_at "wp"
    rw [cut_from _ _ (by rw [List.length_map]; omega),<- List.map_drop]
    refine join_S t2.ne t2 ?_
    refine add_S (by have:=t1.len; have:=t2.len; simp; omega) ?_
    refine ⟨ws.take m++[]::ws.drop m,[],by rw [jB_gap t1.ne t2.ne],h.add (by rw [List.take_append_drop]),dead_nil,by simp⟩
   ·walk_at "wp"
    rw [blank_is]
    refine add_S (by simp; omega) ?_
    walk_at "wp"
    refine add_S (by simp; omega) ?_
    walk_at "wp"
    refine ⟨(by show (2 : Nat) <= sizeLine; decide),?_⟩
    walk_at "wp"
    refine o_ixLm (Int.emod_nonneg _ (by decide)) (by have:=Int.emod_lt_of_pos y (show (0 : Int) < 2 by decide); simpa using this) fun d hd=>?_
    rcases List.mem_cons.mp hd with rfl | hd
    ·refine ⟨ws++[]::[],[],?_,h.add (by simp),dead_nil,by simp⟩
     rw [jB_app h.tx.ne (by simp)]; rfl
    ·rw [List.mem_singleton] at hd
     subst hd
     refine ⟨[]++[]::ws,[],?_,h.add (by simp),dead_nil,by simp⟩
     have:=h.tx.ne
     cases ws with
     | nil=>exact absurd rfl this
     | cons w r=>rfl
 obtain ⟨r,e,vs,w,rfl,k⟩:=key
 exact ⟨vs,w,e,k⟩
open PySem.NumText (digitsVal AllDigits)
structure Num (n : W) : Prop where
 fg : n.all figC = true
 hd : ∃ c r,n = c::r /\ 49 <= c
 le : n.length <= 21
def dg (m : Nat) : W:=(Nat.toDigits 10 m).map Char.toNat
theorem dig1 : ∀ d : Nat,d < 10->(Nat.digitChar d).toNat = 48 + d:=by decide
theorem dg_low {m : Nat} (h : m < 10) : dg m = [48 + m]:=by
 unfold dg
 rw [Nat.toDigits_of_lt_base h]
 show [(Nat.digitChar m).toNat] = _
 rw [dig1 m h]
theorem dg_high {m : Nat} (h : ¬ m < 10) : dg m = dg (m / 10)++[48 + m % 10]:=by
 have hm : m % 10 < 10:=Nat.mod_lt m (by decide)
 have t : Nat.toDigits 10 (m / 10)++Nat.toDigits 10 (m % 10) = Nat.toDigits 10 (10 * (m / 10) + m % 10):=Nat.toDigits_append_toDigits (by decide) (by omega) hm
 rw [Nat.div_add_mod] at t
 unfold dg
 rw [<- t,List.map_append]
 congr 1
 exact dg_low hm
theorem dg_spec : ∀ (k m : Nat),1 <= m->m < 10 ^ k->(dg m).all figC = true /\ (∃ c r,dg m = c::r /\ 49 <= c) /\ (dg m).length <= k
 | 0,m,h1,h2=>by simp at h2; omega
 | k + 1,m,h1,h2=>by
  by_cases h : m < 10
  ·rw [dg_low h]
   refine ⟨?_,⟨48 + m,[],rfl,by omega⟩,by simp⟩
   simp [figC]; omega
  ·rw [dg_high h]
   obtain ⟨a1,⟨c,r,e,hc⟩,a3⟩:=dg_spec k (m / 10) (by omega) (by rw [Nat.pow_succ] at h2; omega)
   refine ⟨?_,⟨c,r++[48 + m % 10],by rw [e]; rfl,hc⟩,by simp; omega⟩
   rw [List.all_append,a1]
   simp [figC]; omega
theorem str_num {m : Nat} (h : m < 10 ^ 25) : strT [.int m] = some (.str (S (dg m))):=by
 have e : Str.ofString (toString ((m : Nat) : Int)) = S (dg m):=by
  have:=PySem.W.KIN.signs_num m
  have e2 : (Str.ofString (toString ((m : Nat) : Int))).cps = (dg m).toArray:=by
   rw [show dg m = (Nat.toDigits 10 m).map Char.toNat from rfl,<- this]
  exact (congrArg Str.mk e2 : Str.mk _ = Str.mk _)
 show (if ((m : Int).natAbs).log2 < 1920 then some (D.str (Str.ofString (toString ((m : Nat) : Int)))) else none) = _
 rw [if_pos,e]
 rw [Int.natAbs_natCast]
 by_cases h0 : m = 0
 ·subst h0; decide
 ·exact (Nat.log2_lt h0).mpr (Nat.lt_of_lt_of_le h (by decide +kernel))
theorem num_of {m : Nat} (h1 : 1 <= m) (h2 : m <= 10 ^ 20) : Num (dg m):=by
 obtain ⟨a,b,c⟩:=dg_spec 21 m h1 (by omega)
 exact ⟨a,b,c⟩
theorem dg_val (m : Nat) : digitsVal (dg m) = m:=PySem.W.KIN.val_back m
theorem Num.figs {n : W} (h : Num n) : figs n = n:=by
 obtain ⟨c,r,rfl,hc⟩:=h.hd
 unfold K42.figs
 split
 ·rename_i e; cases e; omega
 ·rfl
theorem Num.num {n : W} (h : Num n) : numB n = true:=by
 unfold numB
 rw [h.figs,h.fg]
 obtain ⟨c,r,rfl,hc⟩:=h.hd
 have:=h.le
 rw [decide_eq_true (by simp),decide_eq_true (by omega)]
 have : ((c::r).head? == some 48) = false:=by simp; omega
 rw [this]; rfl
theorem Num.neg {n : W} (h : Num n) : numB (45::n) = true:=by
 unfold numB
 have e : K42.figs (45::n) = n:=rfl
 rw [e,h.fg]
 obtain ⟨c,r,rfl,hc⟩:=h.hd
 have:=h.le
 rw [decide_eq_true (by simp),decide_eq_true (by omega)]
 have : ((c::r).head? == some 48) = false:=by simp; omega
 rw [this]; rfl
theorem Num.nb {n : W} (h : Num n) : 32 ∉ n:=fun hm=>by
 have:=List.all_eq_true.mp h.fg 32 hm
 exact absurd this (by decide)
theorem Num.nm {n : W} (h : Num n) : nmB n = false:=by
 obtain ⟨c,r,e,hc⟩:=h.hd
 have:=List.all_eq_true.mp h.fg c (by rw [e]; simp)
 unfold nmB
 rw [nat_no (p:=smallC) (c:=c) (by rw [e]; simp),Bool.and_false]
 unfold figC at this
 unfold smallC
 rw [Bool.and_eq_true,decide_eq_true_iff,decide_eq_true_iff] at this
 rw [decide_eq_false (by omega)]; rfl
theorem Num.last {n : W} (h : Num n) : n.getLast? ≠ some 44:=fun e=>by
 have:=List.all_eq_true.mp h.fg 44 (List.mem_of_getLast? e)
 exact absurd this (by decide)
theorem nm_is {w : W} (h : nmB w = true) : 1 <= w.length /\ w.length <= 8 /\ w ∉ kws /\ ∀ c ∈ w,smallC c = true:=by
 unfold nmB at h
 rw [Bool.and_eq_true,Bool.and_eq_true,shB_iff] at h
 obtain ⟨⟨⟨h1,h2⟩,h3⟩,h4⟩:=h
 exact ⟨h1,h2,by simpa using h3,List.all_eq_true.mp h4⟩
theorem nm_nb {w : W} (h : nmB w = true) : 32 ∉ w:=fun hm=>absurd ((nm_is h).2.2.2 32 hm) (by decide)
theorem nm_ne {w k : W} (h : nmB w = true) (hk : k ∈ kws) : w ≠ k:=fun e=>(nm_is h).2.2.1 (e ▸ hk)
theorem nm_last {w : W} (h : nmB w = true) : w.getLast? ≠ some 44:=fun e=>absurd ((nm_is h).2.2.2 44 (List.mem_of_getLast? e)) (by decide)
theorem e_names (c : Int) (n : Nat) (hn : n <= 100) : Op (M__law_names [.int c,.int n]) fun r=>∃ zs : List W,r = .fr (.lst (zs.map sD)) /\ zs.length = n /\ ∀ z ∈ zs,nmB z = true:=by
 unfold M__law_names fb__law_names
 walk_at "wrun"
 walk_at "wp"
 have h8 : (0 : Int) < 1 + c % 8:=by have:=Int.emod_nonneg c (show (8 : Int) ≠ 0 by decide); omega
 have h9 : 1 + c % 8 <= 8:=by have:=Int.emod_lt_of_pos c (show (0 : Int) < 8 by decide); omega
 try refine o_mod h8 ?_
 walk_at "wp"
 obtain ⟨r,er,xs,rfl,hx⟩:=e_stream (c / 64) 8 (by decide)
 refine op_of er ?_
 walk_at "wp"
 refine ⟨sl_big (by rw [List.length_map]; omega),op_compY (hh:=fun i : Int=>.int (i % 26)) (fun i _=>?_) ?_⟩
 ·walk_at "wp"
  rfl
 ·walk_at "wp"
  refine ⟨Nat.zero_le _,?_⟩
  walk_at "wp"
  refine ⟨by omega,?_⟩
  rw [Int.toNat_natCast]
  generalize hs : 1 + c % 8 = s at *
  generalize ha : c / 8 % s = at_
  refine so_forL (fun k δ=>∃ (zs : List W) (x y : Option Sl),δ = [some (.sh (.int c)),some (.sh (.int n)),some (.sh (.str "abcdefghijklmnopqrstuvwxyz")),some (.sh (.int s)),some (.sh (.int at_)),some (.sh (.lst (xs.map fun i : Int=>D.int (i % 26)))),some (.pv (.lst (zs.map sD)) none),x,y] /\ zs.length = k /\ ∀ z ∈ zs,nmB z = true) ⟨[],_,_,rfl,rfl,fun z h=>nomatch h⟩ ?_ ?_
  ·rintro k x hk δ ⟨zs,x,y,rfl,hz,hlow⟩
   obtain ⟨hkn,rfl⟩:=rng_ix hk
   dsimp only [List.set]
   walk_at "wp"
   obtain ⟨m,rfl⟩ : ∃ m : Nat,s = m:=⟨s.toNat,by omega⟩
   refine ⟨by omega,?_⟩
   rw [Int.toNat_natCast]
   refine ⟨by rw [rng_map,List.length_map,List.length_range]; exact sl_big (by omega),op_compQ (Q:=fun y=>∃ c : Nat,y = .str ⟨#[c]⟩ /\ smallC c = true) (fun d hd=>?_) fun ys hys hall=>?_⟩
   ·rw [rng_map] at hd
    obtain ⟨j,hj,rfl⟩:=List.mem_map.mp hd
    have hj:=List.mem_range.mp hj
    walk_at "wp"
    refine o_ixL (x:=.int (xs[j]'(by omega) % 26)) (by rw [List.getElem?_map,List.getElem?_eq_getElem (by omega)]; rfl) ?_
    walk_at "wp"
    try refine o_mul ?_ ?_
    ·exact Or.inr (by by_cases h : ((j : Int) = at_) <;> simp [h])
    walk_at "wp"
    refine o_ixS (by decide +kernel) (Int.emod_nonneg _ (by decide)) ?_ fun c hc=>⟨c,rfl,az_small hc⟩
    exact Int.lt_of_lt_of_le (Int.emod_lt_of_pos _ (by decide)) (by decide +kernel)
   ·have hys' : ys.length = m:=by rw [hys]; simp [rngD]
    obtain ⟨ls,rfl,hls⟩:=list_exists (n:=0) hall
    rw [List.length_map] at hys'
    walk_at "wp"
    refine o_join (by omega) ?_
    walk_at "wpn"
    refine so_mid (fun δ=>∃ w : W,nmB w = true /\ δ = [some (.sh (.int c)),some (.sh (.int n)),some (.sh (.str "abcdefghijklmnopqrstuvwxyz")),some (.sh (.int m)),some (.sh (.int at_)),some (.sh (.lst (xs.map fun i : Int=>D.int (i % 26)))),some (.pv (.lst (zs.map sD)) none),some (.sh (.int k)),some (.sh (sD w))]) ?_ ?_
    ·walk_at "wp"
     refine ⟨by decide +kernel,?_⟩
     rw [show ([.str "not",.str "if",.str "under",.str "unlike",.str "sum",.str "least",.str "count"] : List D) = kws.map fun k=>.str (S k) by
      have:=words_is
      unfold g_WORDS at this
      exact D.tup.inj this]
     refine o_inT (atom_S (w:=ls) (by omega) (by omega)) kws_atom fun b hb=>?_
     rw [mem_S] at hb
     walk_at "wp"
     refine o_cond' b (fun hb1=>?_) fun hb1=>?_
     ·walk_at "wp"
      have hx : ("x" : Str) = S [120]:=by decide +kernel
      rw [hx]
      refine add_S (by simp; omega) ?_
      walk_at "wp"
      refine ⟨120::ls,?_,rfl⟩
      have : ∀ k ∈ kws,nmB (120::k) = true:=by decide
      exact this ls (hb.mp hb1)
     ·walk_at "wp"
      refine ⟨ls,?_,rfl⟩
      have hn : ls ∉ kws:=fun h=>by rw [hb.mpr h] at hb1; cases hb1
      unfold nmB
      rw [shB_iff.mpr ⟨by omega,by omega⟩,decide_eq_false hn,List.all_eq_true.mpr hls]
      rfl
    ·rintro δ ⟨w,lw,rfl⟩
     walk_at "wp"
     refine ⟨sl_lt (by rw [List.length_map]; omega),?_⟩
     walk_at "wp"
     exact ⟨zs++[w],_,_,by rw [List.map_append]; rfl,by simp [hz],fun v hv=>(List.mem_append.mp hv).elim (hlow v) fun e=>by rw [List.mem_singleton] at e; exact e ▸ lw⟩
  ·rintro δ ⟨zs,x,y,rfl,hz,hlow⟩
   walk_at "wp"
   exact ⟨zs,rfl,by rw [hz]; simp [rngD],hlow⟩
structure Hyp (p a n : W) : Prop where
 p : nmB p = true
 a : nmB a = true
 n : Num n
theorem Hyp.lp {p a n : W} (H : Hyp p a n) : p.length <= 8:=(nm_is H.p).2.1
theorem Hyp.la {p a n : W} (H : Hyp p a n) : a.length <= 8:=(nm_is H.a).2.1
abbrev Okw (w : W) : Prop:=32 ∉ w /\ w.length <= 40
theorem Hyp.wp {p a n : W} (H : Hyp p a n) : Okw p:=⟨nm_nb H.p,by have:=H.lp; omega⟩
theorem Hyp.wa {p a n : W} (H : Hyp p a n) : Okw a:=⟨nm_nb H.a,by have:=H.la; omega⟩
theorem Hyp.wn {p a n : W} (H : Hyp p a n) : Okw n:=⟨H.n.nb,by have:=H.n.le; omega⟩
theorem okw_c {c : Nat} {w : W} (hc : c ≠ 32) (h : Okw w) (hl : (c::w).length <= 40) : Okw (c::w):=⟨fun hm=>(List.mem_cons.mp hm).elim (fun e=>hc e.symm) h.1,hl⟩
theorem okw_pa {p a n : W} (H : Hyp p a n) : Okw (p++44::a):=⟨by have h1:=nm_nb H.p; have h2:=nm_nb H.a; simp [h1,h2],by have:=H.lp; have:=H.la; simp; omega⟩
theorem okw_a {p a n : W} (H : Hyp p a n) : Okw (a++[44]):=⟨by have h2:=nm_nb H.a; simp [h2],by have:=H.la; simp; omega⟩
theorem tx_one {w : W} (h : Okw w) : Tx [w]:=⟨by simp,fun x hx=>by rw [List.mem_singleton.mp hx]; exact h.1,fun x hx=>by rw [List.mem_singleton.mp hx]; exact h.2,by simp⟩
theorem tx_cons {w : W} {ws : List W} (h : Okw w) (t : Tx ws) (hl : (w::ws).length <= 24) : Tx (w::ws):=⟨by simp,fun x hx=>(List.mem_cons.mp hx).elim (fun e=>e ▸ h.1) (t.nb x),fun x hx=>(List.mem_cons.mp hx).elim (fun e=>e ▸ h.2) (t.lb x),hl⟩
def BadF (d : D) : Prop:=∃ ws,d = .str (S (jB ws)) /\ Tx ws /\ okF ws = false
def BadR (d : D) : Prop:=∃ ws,d = .str (S (jB ws)) /\ Tx ws /\ M_is_rule [rD (prs ws).1 (bpW (prs ws).2)] = some (.sh (.bl false))
def dE (p a n : W) (x3 : Option Sl) : En:=[some (.sh (.str (S p))),some (.sh (.str (S a))),some (.sh (.str (S n))),x3]
def EG (p a n : W) (f : FE) (P : D->Prop) : Prop:=∀ x3,∃ d,f (dE p a n x3) = some d /\ P d
def GL (p a n : W) (g : En->Option (List D)) (P : D->Prop) (k : Nat) : Prop:=∀ x3,∃ ds,g (dE p a n x3) = some ds /\ ds.length = k /\ ∀ d ∈ ds,P d
theorem nilG {p a n : W} {P : D->Prop} : GL p a n fNil P 0:=fun _=>⟨[],rfl,rfl,fun _ h=>nomatch h⟩
theorem consG {p a n : W} {f : FE} {g : En->Option (List D)} {P : D->Prop} {k : Nat} (hf : EG p a n f P) (hg : GL p a n g P k) : GL p a n (fCons f g) P (k + 1):=fun x3=>by
 obtain ⟨d,e1,h1⟩:=hf x3
 obtain ⟨ds,e2,l,h2⟩:=hg x3
 exact ⟨d::ds,by unfold fCons; rw [e1,Option.bind_some,e2,Option.bind_some],by simp [l],fun x hx=>(List.mem_cons.mp hx).elim (fun e=>e ▸ h1) (h2 x)⟩
theorem cat {f g : FE} {δ : En} {p q : W} (hf : f δ = some (.str (S p))) (hg : g δ = some (.str (S q))) (hl : p.length + q.length <= 9000) : f2 addD f g δ = some (.str (S (p++q))):=by
 unfold f2
 rw [hf,Option.bind_some,hg,Option.bind_some,add_str (by rw [S_len,S_len,sizeLine_eq]; omega),S_app]
theorem lit {z : Str} {δ : En} (q : W) (h : z = S q) : fC (.str z) δ = some (.str (S q)):=by rw [h]; rfl
theorem mul30 (δ : En) : f2 mulS (fC (.str "0")) (fC (.int 30)) δ = some (.str (S [48,48,48,48,48,48,48,48,48,48,48,48,48,48,48,48,48,48,48,48,48,48,48,48,48,48,48,48,48,48])):=by kernel_rfl
theorem okF_0 {w : W} {r : List W} (h : nmB w = false) : okF (w::r) = false:=by show (nmB w && _ && _) = false; rw [h]; rfl
theorem okF_5 {w : W} {r : List W} (h : 4 < r.length) : okF (w::r) = false:=by show (nmB w && decide (r.length <= 4) && _) = false; rw [decide_eq_false (by omega)]; simp
theorem okF_c {v : W} {r : List W} (w : W) (hw : w ∈ r) (h : cnB w = false) : okF (v::r) = false:=by show (nmB v && _ && r.all cnB) = false; rw [all_no hw h,Bool.and_false]
theorem bad_r {ws : List W} (h : Tx ws) (ok : okR (prs ws).1 (bpW (prs ws).2) = false) : M_is_rule [rD (prs ws).1 (bpW (prs ws).2)] = some (.sh (.bl false)):=e_isrule_no (pt_of h) ok
theorem mF {d : D} (ws : List W) (e : d = .str (S (jB ws))) (t : Tx ws) (k : okF ws = false) : BadF d:=⟨ws,e,t,k⟩
theorem mR {d : D} (ws : List W) (e : d = .str (S (jB ws))) (t : Tx ws) (k : okR (prs ws).1 (bpW (prs ws).2) = false) : BadR d:=⟨ws,e,t,bad_r t k⟩
section
variable {p a n : W} (H : Hyp p a n)
include H
theorem nm_minus : nmB (45::n) = false:=by unfold nmB; rw [nat_no (p:=smallC) (c:=45) (by simp) (by decide),Bool.and_false]
theorem nm_comma : nmB (p++44::a) = false:=by unfold nmB; rw [nat_no (p:=smallC) (c:=44) (by simp) (by decide),Bool.and_false]
theorem nil_zero : Nil (48::n):=by
 obtain ⟨c,r,e,hc⟩:=H.n.hd
 refine ⟨?_,?_,?_,?_⟩
 ·unfold nmB; rw [nat_no (p:=smallC) (c:=48) (by simp) (by decide),Bool.and_false]
 ·show (shB (48::n) && bigC 48 && _) = false; rw [show bigC 48 = false from rfl]; simp
 ·have f : figs (48::n) = 48::n:=rfl
  unfold numB
  rw [f,e]
  simp
 ·intro hk
  have : ∀ k ∈ kws,k.all smallC = true:=by decide
  exact absurd (this _ hk) (by rw [nat_no (p:=smallC) (c:=48) (by simp) (by decide)]; exact Bool.false_ne_true)
theorem cn_zero : cnB (48::n) = false:=(nil_zero H).cn
theorem cn_mzero : cnB (45::48::n) = false:=by
 unfold cnB
 have e1 : nmB (45::48::n) = false:=by unfold nmB; rw [nat_no (p:=smallC) (c:=45) (by simp) (by decide),Bool.and_false]
 have f : figs (45::48::n) = 48::n:=rfl
 have e2 : numB (45::48::n) = false:=by unfold numB; rw [f]; simp
 rw [e1,e2]; rfl
theorem cn_comma : cnB (a++[44]) = false:=by
 obtain ⟨h1,h2,h3,h4⟩:=nm_is H.a
 unfold cnB
 have e1 : nmB (a++[44]) = false:=by unfold nmB; rw [nat_no (p:=smallC) (c:=44) (by simp) (by decide),Bool.and_false]
 have e2 : numB (a++[44]) = false:=by
  unfold numB
  have hm : 44 ∈ figs (a++[44]):=by
   unfold figs
   split
   ·rename_i r e
    have : 44 ∈ (45::r : W):=by rw [<- e]; simp
    simpa using this
   ·simp
  rw [nat_no (p:=figC) hm (by decide)]; simp
 rw [e1,e2]; rfl
theorem vr_name {w : W} (h : nmB w = true) : vrB w = false:=by
 obtain ⟨h1,h2,h3,h4⟩:=nm_is h
 cases w with
 | nil=>rfl
 | cons c w=>
  have:=h4 c (by simp)
  show (shB (c::w) && bigC c && _) = false
  have e : bigC c = false:=by
   unfold smallC at this
   unfold bigC
   rw [Bool.and_eq_true,decide_eq_true_iff,decide_eq_true_iff] at this
   rw [decide_eq_false (show ¬ c <= 90 by omega),Bool.and_false]
  rw [e]; simp
theorem r_least : M_is_rule [rD (prs [p,[108,101,97,115,116],a,[105,102],[113],[88]]).1 (bpW (prs [p,[108,101,97,115,116],a,[105,102],[113],[88]]).2)] = some (.sh (.bl false)):=by
 refine bad_r (tx_cons H.wp (tx_cons (by decide) (tx_cons H.wa (tx_cons (by decide) (tx_cons (by decide) (tx_one (by decide)) (by simp)) (by simp)) (by simp)) (by simp)) (by simp)) ?_
 have ha : a ≠ wIf:=nm_ne H.a (by decide)
 have e : prs [p,[108,101,97,115,116],a,[105,102],[113],[88]] = ([p,[108,101,97,115,116],a],[[113],[88]]):=by
  have e1 : ptW [a,[105,102],[113],[88]] = some ([a],[[113],[88]]):=by rw [ptW,if_pos ⟨rfl,by simp⟩]
  have e2 : ptW [[108,101,97,115,116],a,[105,102],[113],[88]] = some ([[108,101,97,115,116],a],[[113],[88]]):=by rw [ptW,if_neg (fun h=>ha h.1),e1]; rfl
  unfold prs
  rw [ptW,if_neg (fun h=>absurd h.1 (by decide)),e2]; rfl
 rw [e]
 refine okR_h ?_
 show okH [wLeast,a] = false
 have hc : a ≠ wCount:=nm_ne H.a (by decide)
 simp [okH,hc,vr_name H H.a]
theorem r_zero : M_is_rule [rD (prs [p,[88],[105,102],[113],(48::n)]).1 (bpW (prs [p,[88],[105,102],[113],(48::n)]).2)] = some (.sh (.bl false)):=by
 refine bad_r (tx_cons H.wp (tx_cons (by decide) (tx_cons (by decide) (tx_cons (by decide) (tx_one (okw_c (by decide) H.wn (by have:=H.n.le; simp; omega))) (by simp)) (by simp)) (by simp)) (by simp)) ?_
 have e : bpW (prs [p,[88],[105,102],[113],48::n]).2 = [[[113],48::n]]:=by rfl
 rw [e]
 exact okR_b (okB_l (p:=[[113],48::n]) (by simp) (okLit_no (nil_zero H) (by simp)))
theorem num_kw {k : W} (hk : k ∈ kws) : n ≠ k:=fun e=>by
 have : ∀ k ∈ kws,k.all smallC = true:=by decide
 have h1:=this k hk
 obtain ⟨c,r,e2,hc⟩:=H.n.hd
 have h3:=List.all_eq_true.mp H.n.fg c (by rw [e2]; simp)
 have h2:=List.all_eq_true.mp h1 c (by rw [<- e,e2]; simp)
 unfold smallC at h2
 unfold figC at h3
 rw [Bool.and_eq_true,decide_eq_true_iff,decide_eq_true_iff] at h2 h3
 omega
theorem r_num : M_is_rule [rD (prs [p,[88],[105,102],n,[88]]).1 (bpW (prs [p,[88],[105,102],n,[88]]).2)] = some (.sh (.bl false)):=by
 refine bad_r (tx_cons H.wp (tx_cons (by decide) (tx_cons (by decide) (tx_cons H.wn (tx_one (by decide)) (by simp)) (by simp)) (by simp)) (by simp)) ?_
 have e : (prs [p,[88],[105,102],n,[88]]).2 = [n,[88]]:=rfl
 rw [e]
 have e2 : bpW [n,[88]] = [[n,[88]]]:=by rw [bpW,if_neg H.n.last]; rfl
 rw [e2]
 refine okR_b (okB_l (p:=[n,[88]]) (by simp) ?_)
 rw [okLit_cons]
 have hu : isU n = false:=by
  unfold isU
  rw [decide_eq_false (num_kw H (by decide)),decide_eq_false (num_kw H (by decide))]; rfl
 rw [hu,if_neg Bool.false_ne_true,if_neg (num_kw H (by decide)),H.n.nm]
 rfl
theorem r_five : M_is_rule [rD (prs [p,[105,102],[113],[86],[87],[88],[89,44],[114],[90]]).1 (bpW (prs [p,[105,102],[113],[86],[87],[88],[89,44],[114],[90]]).2)] = some (.sh (.bl false)):=by
 have tx : Tx [p,[105,102],[113],[86],[87],[88],[89,44],[114],[90]]:=tx_cons H.wp (tx_cons (by decide) (tx_cons (by decide) (tx_cons (by decide) (tx_cons (by decide) (tx_cons (by decide) (tx_cons (by decide) (tx_cons (by decide) (tx_one (by decide)) (by simp)) (by simp)) (by simp)) (by simp)) (by simp)) (by simp)) (by simp)) (by simp)
 have e1 : (prs [p,[105,102],[113],[86],[87],[88],[89,44],[114],[90]]).1 = [p]:=rfl
 have e2 : bpW (prs [p,[105,102],[113],[86],[87],[88],[89,44],[114],[90]]).2 = [[[113],[86],[87],[88],[89]],[[114],[90]]]:=rfl
 have P:=pt_of tx
 rw [e1,e2] at P ⊢
 have ok : okR [p] [[[113],[86],[87],[88],[89]],[[114],[90]]] = true:=by
  unfold okR
  show (nmB p && _) = true
  rw [H.p]
  rfl
 have hv : M_rule_variables [rD [p] [[[113],[86],[87],[88],[89]],[[114],[90]]]] = some (.fr (.lst [sD [86],sD [87],sD [88],sD [89],sD [90]])):=by kernel_rfl
 rw [e_isrule P ok hv]
 rfl
omit H in
theorem lst_add {xs ys : List D} (h : xs.length + ys.length <= 1000) : addD (.lst xs) (.lst ys) = some (.lst (xs++ys)):=by
 show Option.or _ (Option.or _ (Option.or _ (lAdd (.lst xs) (.lst ys)))) = _
 have : lAdd (.lst xs) (.lst ys) = some (.lst (xs++ys)):=by
  unfold lAdd
  exact if_pos (by rw [sizeLine_eq]; omega)
 rw [this]
 rfl
end
end K42
local macro_rules | `(tactic| walk_at "ct")=>`(tactic| (have:=K42.Hyp.lp (by assumption); have:=K42.Hyp.la (by assumption); have:=K42.Num.le (K42.Hyp.n (by assumption)); simp <;> omega))
local macro_rules | `(tactic| walk_at "ok")=>`(tactic| first | exact K42.Hyp.wp (by assumption) | exact K42.Hyp.wa (by assumption) | exact K42.Hyp.wn (by assumption) | exact K42.okw_pa (by assumption) | exact K42.okw_a (by assumption) | decide | exact K42.okw_c (by decide) (by walk_at "ok") (by have:=K42.Num.le (K42.Hyp.n (by assumption)); simp; omega))
local macro_rules | `(tactic| walk_at "tx")=>`(tactic| first | exact K42.tx_one (by walk_at "ok") | exact K42.tx_cons (by walk_at "ok") (by walk_at "tx") (by simp))
namespace K42
open PySem PySem.Spec PyProof.Rows L2
def GS (p a n : W) (P : D->Prop) (k : Nat) (δ : En) : Prop:=∃ xs,δ = dE p a n (some (.sh (.lst xs))) /\ xs.length = k /\ ∀ d ∈ xs,P d
theorem set_0 {p a n : W} {P : D->Prop} {g : En->Option (List D)} {k : Nat} {T : Rs->En->Prop} (h : GL p a n g P k) (hk : k <= 100) : So (sSet 3 (fPub (fLstR g)) (dE p a n none)) (GS p a n P k) T:=by
 obtain ⟨ds,e,l,hp⟩:=h none
 refine so_set (op_pub (op_lstR (op_of e ⟨sl_big (by omega),?_⟩)))
 exact ⟨ds,rfl,l,hp⟩
theorem set_1 {p a n : W} {P : D->Prop} {g : En->Option (List D)} {j k : Nat} {δ : En} {T : Rs->En->Prop} (hδ : GS p a n P j δ) (h : GL p a n g P k) (hk : j + k <= 100) : So (sSet 3 (f2 addD (fVarB 3) (fPub (fLstR g))) δ) (GS p a n P (j + k)) T:=by
 obtain ⟨xs,rfl,l1,p1⟩:=hδ
 obtain ⟨ds,e,l,hp⟩:=h (some (.sh (.lst xs)))
 refine so_set (op_f2 (op_of (d:=.lst xs) rfl (op_pub (op_lstR (op_of e ⟨sl_big (by omega),op_of (lst_add (by omega)) ?_⟩)))))
 exact ⟨xs++ds,rfl,by simp [l1,l],fun d hd=>(List.mem_append.mp hd).elim (p1 d) (hp d)⟩
theorem ret_1 {p a n : W} {P : D->Prop} {g : En->Option (List D)} {j k : Nat} {δ : En} {N : En->Prop} (hδ : GS p a n P j δ) (h : GL p a n g P k) (hk : j + k <= 100) : So (sRet (fSh (f2 addD (fVarB 3) (fPub (fLstR g)))) δ) N (fun r _=>∃ xs,r = .sh (.lst xs) /\ xs.length = j + k /\ ∀ d ∈ xs,P d):=by
 obtain ⟨xs,rfl,l1,p1⟩:=hδ
 obtain ⟨ds,e,l,hp⟩:=h (some (.sh (.lst xs)))
 refine so_ret (op_sh (op_f2 (op_of (d:=.lst xs) rfl (op_pub (op_lstR (op_of e ⟨sl_big (by omega),op_of (lst_add (by omega)) ?_⟩))))))
 exact ⟨xs++ds,rfl,by simp [l1,l],fun d hd=>(List.mem_append.mp hd).elim (p1 d) (hp d)⟩
theorem odd_f {p a n : W} (H : Hyp p a n) : ∃ xs,M__law_odd_facts [.str (S p),.str (S a),.str (S n)] = some (.sh (.lst xs)) /\ xs.length = 32 /\ ∀ d ∈ xs,BadF d:=by
 have key : Op (M__law_odd_facts [.str (S p),.str (S a),.str (S n)]) fun r=>∃ xs,r = .sh (.lst xs) /\ xs.length = 32 /\ ∀ d ∈ xs,BadF d:=by
  unfold M__law_odd_facts fb__law_odd_facts
  refine op_runE (δ:=dE p a n none) rfl rfl ?_
  refine so_cut _ (set_0 (consG (fun _=>⟨_,(lit [] (by decide +kernel)),mF [[]] (by simp [jB]) (by walk_at "tx") (okF_0 rfl)⟩)
  (consG (fun _=>⟨_,(lit [32] (by decide +kernel)),mF [[],[]] (by simp [jB]) (by walk_at "tx") (okF_0 rfl)⟩)
  (consG (fun _=>⟨_,(cat rfl (lit [32] (by decide +kernel)) (by walk_at "ct")),mF [p,[]] (by simp [jB]) (by walk_at "tx") (okF_c [] (by simp) rfl)⟩)
  (consG (fun _=>⟨_,(cat (lit [32] (by decide +kernel)) rfl (by walk_at "ct")),mF [[],p] (by simp [jB]) (by walk_at "tx") (okF_0 rfl)⟩)
  (consG (fun _=>⟨_,(cat (lit [80,32] (by decide +kernel)) rfl (by walk_at "ct")),mF [[80],a] (by simp [jB]) (by walk_at "tx") (okF_0 rfl)⟩)
  (consG (fun _=>⟨_,(cat rfl (lit [32,65] (by decide +kernel)) (by walk_at "ct")),mF [p,[65]] (by simp [jB]) (by walk_at "tx") (okF_c [65] (by simp) rfl)⟩)
  (consG (fun _=>⟨_,(cat (cat rfl (lit [32,48] (by decide +kernel)) (by walk_at "ct")) rfl (by walk_at "ct")),mF [p,(48::n)] (by simp [jB]) (by walk_at "tx") (okF_c (48::n) (by simp) (cn_zero H))⟩)
  (consG (fun _=>⟨_,(cat rfl (lit [32,45,48] (by decide +kernel)) (by walk_at "ct")),mF [p,[45,48]] (by simp [jB]) (by walk_at "tx") (okF_c [45,48] (by simp) rfl)⟩)
  (consG (fun _=>⟨_,(cat rfl (lit [32,48,48] (by decide +kernel)) (by walk_at "ct")),mF [p,[48,48]] (by simp [jB]) (by walk_at "tx") (okF_c [48,48] (by simp) rfl)⟩)
  (consG (fun _=>⟨_,(lit [105,102] (by decide +kernel)),mF [[105,102]] (by simp [jB]) (by walk_at "tx") (okF_0 rfl)⟩)
  nilG)))))))))) (by decide)) fun δ1 h1=>?_
  refine so_cut _ (set_1 h1 (consG (fun _=>⟨_,(cat (cat rfl (lit [32,45,48] (by decide +kernel)) (by walk_at "ct")) rfl (by walk_at "ct")),mF [p,(45::48::n)] (by simp [jB]) (by walk_at "tx") (okF_c (45::48::n) (by simp) (cn_mzero H))⟩)
  (consG (fun _=>⟨_,(cat (cat rfl (lit [32,43] (by decide +kernel)) (by walk_at "ct")) rfl (by walk_at "ct")),mF [p,(43::n)] (by simp [jB]) (by walk_at "tx") (okF_c (43::n) (by simp) (nil_bad (c:=43) (by simp) (by decide)).cn)⟩)
  (consG (fun _=>⟨_,(cat rfl (lit [32,49,46,48] (by decide +kernel)) (by walk_at "ct")),mF [p,[49,46,48]] (by simp [jB]) (by walk_at "tx") (okF_c [49,46,48] (by simp) rfl)⟩)
  (consG (fun _=>⟨_,(cat (cat (cat rfl (lit [32] (by decide +kernel)) (by walk_at "ct")) rfl (by walk_at "ct")) (lit [32,98,32,99,32,100,32,101] (by decide +kernel)) (by walk_at "ct")),mF [p,a,[98],[99],[100],[101]] (by simp [jB]) (by walk_at "tx") (okF_5 (by simp))⟩)
  (consG (fun _=>⟨_,(cat (lit [110,111,116,32] (by decide +kernel)) rfl (by walk_at "ct")),mF [[110,111,116],a] (by simp [jB]) (by walk_at "tx") (okF_0 rfl)⟩)
  nilG))))) (by decide)) fun δ2 h2=>?_
  refine so_cut _ (set_1 h2 (consG (fun _=>⟨_,(cat (lit [115,117,109,32] (by decide +kernel)) rfl (by walk_at "ct")),mF [[115,117,109],a] (by simp [jB]) (by walk_at "tx") (okF_0 rfl)⟩)
  (consG (fun _=>⟨_,(cat rfl (lit [32,110,111,116] (by decide +kernel)) (by walk_at "ct")),mF [p,[110,111,116]] (by simp [jB]) (by walk_at "tx") (okF_c [110,111,116] (by simp) rfl)⟩)
  (consG (fun _=>⟨_,(cat rfl (lit [32,105,102] (by decide +kernel)) (by walk_at "ct")),mF [p,[105,102]] (by simp [jB]) (by walk_at "tx") (okF_c [105,102] (by simp) rfl)⟩)
  (consG (fun _=>⟨_,(cat rfl (lit [32,97,98,99,100,101,102,103,104,105] (by decide +kernel)) (by walk_at "ct")),mF [p,[97,98,99,100,101,102,103,104,105]] (by simp [jB]) (by walk_at "tx") (okF_c [97,98,99,100,101,102,103,104,105] (by simp) rfl)⟩)
  (consG (fun _=>⟨_,(cat (lit [97,98,99,100,101,102,103,104,105,32] (by decide +kernel)) rfl (by walk_at "ct")),mF [[97,98,99,100,101,102,103,104,105],a] (by simp [jB]) (by walk_at "tx") (okF_0 rfl)⟩)
  (consG (fun _=>⟨_,(cat (cat rfl (lit [32] (by decide +kernel)) (by walk_at "ct")) rfl (by walk_at "ct")),mF [n,a] (by simp [jB]) (by walk_at "tx") (okF_0 H.n.nm)⟩)
  nilG)))))) (by decide)) fun δ3 h3=>?_
  refine so_cut _ (set_1 h3 (consG (fun _=>⟨_,(cat (lit [45] (by decide +kernel)) rfl (by walk_at "ct")),mF [(45::n)] (by simp [jB]) (by walk_at "tx") (okF_0 (nm_minus H))⟩)
  (consG (fun _=>⟨_,(cat (cat rfl (lit [32,49] (by decide +kernel)) (by walk_at "ct")) (mul30 _) (by walk_at "ct")),mF [p,[49,48,48,48,48,48,48,48,48,48,48,48,48,48,48,48,48,48,48,48,48,48,48,48,48,48,48,48,48,48,48]] (by simp [jB]) (by walk_at "tx") (okF_c [49,48,48,48,48,48,48,48,48,48,48,48,48,48,48,48,48,48,48,48,48,48,48,48,48,48,48,48,48,48,48] (by simp) rfl)⟩)
  (consG (fun _=>⟨_,(cat rfl (lit [32,45,45,49] (by decide +kernel)) (by walk_at "ct")),mF [p,[45,45,49]] (by simp [jB]) (by walk_at "tx") (okF_c [45,45,49] (by simp) rfl)⟩)
  (consG (fun _=>⟨_,(cat rfl (lit [32,49,45] (by decide +kernel)) (by walk_at "ct")),mF [p,[49,45]] (by simp [jB]) (by walk_at "tx") (okF_c [49,45] (by simp) rfl)⟩)
  (consG (fun _=>⟨_,(cat rfl (lit [32,45] (by decide +kernel)) (by walk_at "ct")),mF [p,[45]] (by simp [jB]) (by walk_at "tx") (okF_c [45] (by simp) rfl)⟩)
  (consG (fun _=>⟨_,(cat (cat rfl (lit [44] (by decide +kernel)) (by walk_at "ct")) rfl (by walk_at "ct")),mF [((p++44::a))] (by simp [jB]) (by walk_at "tx") (okF_0 (nm_comma H))⟩)
  nilG)))))) (by decide)) fun δ4 h4=>?_
  exact so_seq ((ret_1 h4 (consG (fun _=>⟨_,(cat (cat (cat rfl (lit [32] (by decide +kernel)) (by walk_at "ct")) rfl (by walk_at "ct")) (lit [44,32,98] (by decide +kernel)) (by walk_at "ct")),mF [p,((a++[44])),[98]] (by simp [jB]) (by walk_at "tx") (okF_c ((a++[44])) (by simp) (cn_comma H))⟩)
  (consG (fun _=>⟨_,(cat rfl (lit [32,49,97] (by decide +kernel)) (by walk_at "ct")),mF [p,[49,97]] (by simp [jB]) (by walk_at "tx") (okF_c [49,97] (by simp) rfl)⟩)
  (consG (fun _=>⟨_,(cat rfl (lit [32,97,49] (by decide +kernel)) (by walk_at "ct")),mF [p,[97,49]] (by simp [jB]) (by walk_at "tx") (okF_c [97,49] (by simp) rfl)⟩)
  (consG (fun _=>⟨_,(cat (cat rfl (lit [32,105,102,32] (by decide +kernel)) (by walk_at "ct")) rfl (by walk_at "ct")),mF [p,[105,102],a] (by simp [jB]) (by walk_at "tx") (okF_c [105,102] (by simp) rfl)⟩)
  (consG (fun _=>⟨_,(cat rfl (lit [32,88,121] (by decide +kernel)) (by walk_at "ct")),mF [p,[88,121]] (by simp [jB]) (by walk_at "tx") (okF_c [88,121] (by simp) rfl)⟩)
  nilG))))) (by decide)).mono (fun _ z=>z) fun _ _ z=>z)
 obtain ⟨r,e,xs,rfl,h⟩:=key
 exact ⟨xs,e,h⟩
theorem odd_r {p a n : W} (H : Hyp p a n) : ∃ xs,M__law_odd_rules [.str (S p),.str (S a),.str (S n)] = some (.sh (.lst xs)) /\ xs.length = 48 /\ ∀ d ∈ xs,BadR d:=by
 have key : Op (M__law_odd_rules [.str (S p),.str (S a),.str (S n)]) fun r=>∃ xs,r = .sh (.lst xs) /\ xs.length = 48 /\ ∀ d ∈ xs,BadR d:=by
  unfold M__law_odd_rules fb__law_odd_rules
  refine op_runE (δ:=dE p a n none) rfl rfl ?_
  refine so_cut _ (set_0 (consG (fun _=>⟨_,(lit [] (by decide +kernel)),mR [[]] (by simp [jB]) (by walk_at "tx") (okR_n rfl)⟩)
  (consG (fun _=>⟨_,(lit [32,105,102,32] (by decide +kernel)),mR [[],[105,102],[]] (by simp [jB]) (by walk_at "tx") (okR_n rfl)⟩)
  (consG (fun _=>⟨_,rfl,mR [p] (by simp [jB]) (by walk_at "tx") (okR_b rfl)⟩)
  (consG (fun _=>⟨_,(cat rfl (lit [32,105,102] (by decide +kernel)) (by walk_at "ct")),mR [p,[105,102]] (by simp [jB]) (by walk_at "tx") (okR_h rfl)⟩)
  (consG (fun _=>⟨_,(cat rfl (lit [32,105,102,32] (by decide +kernel)) (by walk_at "ct")),mR [p,[105,102],[]] (by simp [jB]) (by walk_at "tx") (okR_b rfl)⟩)
  (consG (fun _=>⟨_,(lit [105,102,32,113] (by decide +kernel)),mR [[105,102],[113]] (by simp [jB]) (by walk_at "tx") (okR_n rfl)⟩)
  (consG (fun _=>⟨_,(lit [32,105,102,32,113] (by decide +kernel)),mR [[],[105,102],[113]] (by simp [jB]) (by walk_at "tx") (okR_n rfl)⟩)
  (consG (fun _=>⟨_,(cat rfl (lit [32,88,32,105,102] (by decide +kernel)) (by walk_at "ct")),mR [p,[88],[105,102]] (by simp [jB]) (by walk_at "tx") (okR_h rfl)⟩)
  (consG (fun _=>⟨_,(cat rfl (lit [32,88,32,105,102,32,113,32,88,44,114,32,88] (by decide +kernel)) (by walk_at "ct")),mR [p,[88],[105,102],[113],[88,44,114],[88]] (by simp [jB]) (by walk_at "tx") (okR_b rfl)⟩)
  (consG (fun _=>⟨_,(cat rfl (lit [32,88] (by decide +kernel)) (by walk_at "ct")),mR [p,[88]] (by simp [jB]) (by walk_at "tx") (okR_b rfl)⟩)
  nilG)))))))))) (by decide)) fun δ1 h1=>?_
  refine so_cut _ (set_1 h1 (consG (fun _=>⟨_,(cat rfl (lit [32,88,32,105,102,32,113,32,88,32,44,32,114,32,88] (by decide +kernel)) (by walk_at "ct")),mR [p,[88],[105,102],[113],[88],[44],[114],[88]] (by simp [jB]) (by walk_at "tx") (okR_b rfl)⟩)
  (consG (fun _=>⟨_,(cat rfl (lit [32,88,32,105,102,32,113,32,88,44,32,32,114,32,88] (by decide +kernel)) (by walk_at "ct")),mR [p,[88],[105,102],[113],[88,44],[],[114],[88]] (by simp [jB]) (by walk_at "tx") (okR_b rfl)⟩)
  (consG (fun _=>⟨_,(cat rfl (lit [32,88,32,105,102,32,113,32,88,44,32] (by decide +kernel)) (by walk_at "ct")),mR [p,[88],[105,102],[113],[88,44],[]] (by simp [jB]) (by walk_at "tx") (okR_b rfl)⟩)
  (consG (fun _=>⟨_,(cat rfl (lit [32,88,32,105,102,32,117,110,100,101,114,32,88] (by decide +kernel)) (by walk_at "ct")),mR [p,[88],[105,102],[117,110,100,101,114],[88]] (by simp [jB]) (by walk_at "tx") (okR_b rfl)⟩)
  nilG)))) (by decide)) fun δ2 h2=>?_
  refine so_cut _ (set_1 h2 (consG (fun _=>⟨_,(cat rfl (lit [32,88,32,105,102,32,117,110,100,101,114,32,88,32,89,32,90] (by decide +kernel)) (by walk_at "ct")),mR [p,[88],[105,102],[117,110,100,101,114],[88],[89],[90]] (by simp [jB]) (by walk_at "tx") (okR_b rfl)⟩)
  (consG (fun _=>⟨_,(cat rfl (lit [32,88,32,105,102,32,117,110,108,105,107,101,32,88] (by decide +kernel)) (by walk_at "ct")),mR [p,[88],[105,102],[117,110,108,105,107,101],[88]] (by simp [jB]) (by walk_at "tx") (okR_b rfl)⟩)
  (consG (fun _=>⟨_,(cat rfl (lit [32,88,32,105,102,32,110,111,116] (by decide +kernel)) (by walk_at "ct")),mR [p,[88],[105,102],[110,111,116]] (by simp [jB]) (by walk_at "tx") (okR_b rfl)⟩)
  (consG (fun _=>⟨_,(cat rfl (lit [32,88,32,105,102,32,110,111,116,32,49,32,88] (by decide +kernel)) (by walk_at "ct")),mR [p,[88],[105,102],[110,111,116],[49],[88]] (by simp [jB]) (by walk_at "tx") (okR_b rfl)⟩)
  nilG)))) (by decide)) fun δ3 h3=>?_
  refine so_cut _ (set_1 h3 (consG (fun _=>⟨_,(lit [80,32,88,32,105,102,32,113,32,88] (by decide +kernel)),mR [[80],[88],[105,102],[113],[88]] (by simp [jB]) (by walk_at "tx") (okR_n rfl)⟩)
  (consG (fun _=>⟨_,(cat rfl (lit [32,88,32,105,102,32,81,32,88] (by decide +kernel)) (by walk_at "ct")),mR [p,[88],[105,102],[81],[88]] (by simp [jB]) (by walk_at "tx") (okR_b rfl)⟩)
  (consG (fun _=>⟨_,(cat rfl (lit [32,115,117,109,32,105,102,32,113,32,88] (by decide +kernel)) (by walk_at "ct")),mR [p,[115,117,109],[105,102],[113],[88]] (by simp [jB]) (by walk_at "tx") (okR_h rfl)⟩)
  (consG (fun _=>⟨_,(cat rfl (lit [32,115,117,109,32,51,32,105,102,32,113,32,88] (by decide +kernel)) (by walk_at "ct")),mR [p,[115,117,109],[51],[105,102],[113],[88]] (by simp [jB]) (by walk_at "tx") (okR_h rfl)⟩)
  (consG (fun _=>⟨_,(lit [99,111,117,110,116,32,105,102,32,113] (by decide +kernel)),mR [[99,111,117,110,116],[105,102],[113]] (by simp [jB]) (by walk_at "tx") (okR_n rfl)⟩)
  (consG (fun _=>⟨_,(lit [115,117,109,32,88,32,105,102,32,113,32,88] (by decide +kernel)),mR [[115,117,109],[88],[105,102],[113],[88]] (by simp [jB]) (by walk_at "tx") (okR_n rfl)⟩)
  nilG)))))) (by decide)) fun δ4 h4=>?_
  refine so_cut _ (set_1 h4 (consG (fun _=>⟨_,(cat (cat (cat rfl (lit [32,108,101,97,115,116,32] (by decide +kernel)) (by walk_at "ct")) rfl (by walk_at "ct")) (lit [32,105,102,32,113,32,88] (by decide +kernel)) (by walk_at "ct")),⟨[p,[108,101,97,115,116],a,[105,102],[113],[88]],by simp [jB],by walk_at "tx",(r_least H)⟩⟩)
  (consG (fun _=>⟨_,(cat rfl (lit [32,99,111,117,110,116,32,88,32,105,102,32,113,32,88] (by decide +kernel)) (by walk_at "ct")),mR [p,[99,111,117,110,116],[88],[105,102],[113],[88]] (by simp [jB]) (by walk_at "tx") (okR_h rfl)⟩)
  (consG (fun _=>⟨_,(cat rfl (lit [32,88,32,105,102,102,32,113,32,88] (by decide +kernel)) (by walk_at "ct")),mR [p,[88],[105,102,102],[113],[88]] (by simp [jB]) (by walk_at "tx") (okR_b rfl)⟩)
  (consG (fun _=>⟨_,(cat rfl (lit [32,88,32,73,70,32,113,32,88] (by decide +kernel)) (by walk_at "ct")),mR [p,[88],[73,70],[113],[88]] (by simp [jB]) (by walk_at "tx") (okR_b rfl)⟩)
  nilG)))) (by decide)) fun δ5 h5=>?_
  refine so_cut _ (set_1 h5 (consG (fun _=>⟨_,(cat rfl (lit [32,88,32,89,32,90,32,87,32,86,32,105,102,32,113,32,88,32,89,32,90,32,87] (by decide +kernel)) (by walk_at "ct")),mR [p,[88],[89],[90],[87],[86],[105,102],[113],[88],[89],[90],[87]] (by simp [jB]) (by walk_at "tx") (okR_h rfl)⟩)
  (consG (fun _=>⟨_,(cat rfl (lit [32,105,102,32,113,32,88,44,32,113,32,88,44,32,113,32,88,44,32,113,32,88,44,32,113,32,88] (by decide +kernel)) (by walk_at "ct")),mR [p,[105,102],[113],[88,44],[113],[88,44],[113],[88,44],[113],[88,44],[113],[88]] (by simp [jB]) (by walk_at "tx") (okR_b rfl)⟩)
  (consG (fun _=>⟨_,(cat rfl (lit [32,105,102,32,113,32,86,32,87,32,88,32,89,44,32,114,32,90] (by decide +kernel)) (by walk_at "ct")),⟨[p,[105,102],[113],[86],[87],[88],[89,44],[114],[90]],by simp [jB],by walk_at "tx",(r_five H)⟩⟩)
  nilG))) (by decide)) fun δ6 h6=>?_
  refine so_cut _ (set_1 h6 (consG (fun _=>⟨_,(cat rfl (lit [32,105,102,32,110,111,116,32,113,44,32,110,111,116,32,113,44,32,110,111,116,32,113,44,32,110,111,116,32,113,44,32,110,111,116,32,113,44,32,110,111,116,32,113,44,32,110,111,116,32,113] (by decide +kernel)) (by walk_at "ct")),mR [p,[105,102],[110,111,116],[113,44],[110,111,116],[113,44],[110,111,116],[113,44],[110,111,116],[113,44],[110,111,116],[113,44],[110,111,116],[113,44],[110,111,116],[113]] (by simp [jB]) (by walk_at "tx") (okR_b rfl)⟩)
  (consG (fun _=>⟨_,(cat rfl (lit [32,105,102,32,113,32,88,32,88,32,88,32,88,32,88] (by decide +kernel)) (by walk_at "ct")),mR [p,[105,102],[113],[88],[88],[88],[88],[88]] (by simp [jB]) (by walk_at "tx") (okR_b rfl)⟩)
  nilG)) (by decide)) fun δ7 h7=>?_
  refine so_cut _ (set_1 h7 (consG (fun _=>⟨_,(cat rfl (lit [32,88,32,110,111,116,32,113,32,88] (by decide +kernel)) (by walk_at "ct")),mR [p,[88],[110,111,116],[113],[88]] (by simp [jB]) (by walk_at "tx") (okR_h rfl)⟩)
  (consG (fun _=>⟨_,(cat rfl (lit [32,88,32,105,102,32,105,102,32,113,32,88] (by decide +kernel)) (by walk_at "ct")),mR [p,[88],[105,102],[105,102],[113],[88]] (by simp [jB]) (by walk_at "tx") (okR_b rfl)⟩)
  (consG (fun _=>⟨_,(cat rfl (lit [32,88,32,105,102,32,113,32,88,32,105,102,32,114,32,88] (by decide +kernel)) (by walk_at "ct")),mR [p,[88],[105,102],[113],[88],[105,102],[114],[88]] (by simp [jB]) (by walk_at "tx") (okR_b rfl)⟩)
  (consG (fun _=>⟨_,(cat (cat rfl (lit [32,88,32,105,102,32,113,32,48] (by decide +kernel)) (by walk_at "ct")) rfl (by walk_at "ct")),⟨[p,[88],[105,102],[113],(48::n)],by simp [jB],by walk_at "tx",(r_zero H)⟩⟩)
  nilG)))) (by decide)) fun δ8 h8=>?_
  refine so_cut _ (set_1 h8 (consG (fun _=>⟨_,(cat rfl (lit [32,88,32,105,102,32,113,32,45,48] (by decide +kernel)) (by walk_at "ct")),mR [p,[88],[105,102],[113],[45,48]] (by simp [jB]) (by walk_at "tx") (okR_b rfl)⟩)
  (consG (fun _=>⟨_,(cat (cat rfl (lit [32,88,32,105,102,32,113,32,49] (by decide +kernel)) (by walk_at "ct")) (mul30 _) (by walk_at "ct")),mR [p,[88],[105,102],[113],[49,48,48,48,48,48,48,48,48,48,48,48,48,48,48,48,48,48,48,48,48,48,48,48,48,48,48,48,48,48,48]] (by simp [jB]) (by walk_at "tx") (okR_b rfl)⟩)
  (consG (fun _=>⟨_,(cat rfl (lit [32,88,32,105,102,32,113,32,88,59,32,114,32,88] (by decide +kernel)) (by walk_at "ct")),mR [p,[88],[105,102],[113],[88,59],[114],[88]] (by simp [jB]) (by walk_at "tx") (okR_b rfl)⟩)
  (consG (fun _=>⟨_,(cat rfl (lit [32,88,97,98,99,100,101,102,103,104,32,105,102,32,113,32,88] (by decide +kernel)) (by walk_at "ct")),mR [p,[88,97,98,99,100,101,102,103,104],[105,102],[113],[88]] (by simp [jB]) (by walk_at "tx") (okR_h rfl)⟩)
  nilG)))) (by decide)) fun δ9 h9=>?_
  refine so_cut _ (set_1 h9 (consG (fun _=>⟨_,(cat rfl (lit [32,88,32,105,102,32,113,32,97,98,99,100,101,102,103,104,105] (by decide +kernel)) (by walk_at "ct")),mR [p,[88],[105,102],[113],[97,98,99,100,101,102,103,104,105]] (by simp [jB]) (by walk_at "tx") (okR_b rfl)⟩)
  (consG (fun _=>⟨_,(cat rfl (lit [32,88,32,105,102,32,113,32,115,117,109,32,88] (by decide +kernel)) (by walk_at "ct")),mR [p,[88],[105,102],[113],[115,117,109],[88]] (by simp [jB]) (by walk_at "tx") (okR_b rfl)⟩)
  (consG (fun _=>⟨_,(cat rfl (lit [32,115,117,109,32,88,32,89,32,105,102,32,113,32,88] (by decide +kernel)) (by walk_at "ct")),mR [p,[115,117,109],[88],[89],[105,102],[113],[88]] (by simp [jB]) (by walk_at "tx") (okR_h rfl)⟩)
  (consG (fun _=>⟨_,(cat rfl (lit [32,88,32,105,102,32,113,32,88] (by decide +kernel)) (by walk_at "ct")),mR [n,[88],[105,102],[113],[88]] (by simp [jB]) (by walk_at "tx") (okR_n H.n.nm)⟩)
  nilG)))) (by decide)) fun δ10 h10=>?_
  exact so_seq ((ret_1 h10 (consG (fun _=>⟨_,(cat (cat (cat rfl (lit [32,88,32,105,102,32] (by decide +kernel)) (by walk_at "ct")) rfl (by walk_at "ct")) (lit [32,88] (by decide +kernel)) (by walk_at "ct")),⟨[p,[88],[105,102],n,[88]],by simp [jB],by walk_at "tx",(r_num H)⟩⟩)
  (consG (fun _=>⟨_,(cat rfl (lit [32,88,32,99,111,117,110,116,32,115,117,109,32,88,32,105,102,32,113,32,88] (by decide +kernel)) (by walk_at "ct")),mR [p,[88],[99,111,117,110,116],[115,117,109],[88],[105,102],[113],[88]] (by simp [jB]) (by walk_at "tx") (okR_h rfl)⟩)
  (consG (fun _=>⟨_,(cat rfl (lit [32,88,32,105,102,32,113,32,88,32,117,110,100,101,114,32,88,32,51] (by decide +kernel)) (by walk_at "ct")),mR [p,[88],[105,102],[113],[88],[117,110,100,101,114],[88],[51]] (by simp [jB]) (by walk_at "tx") (okR_b rfl)⟩)
  nilG))) (by decide)).mono (fun _ z=>z) fun _ _ z=>z)
 obtain ⟨r,e,xs,rfl,h⟩:=key
 exact ⟨xs,e,h⟩
open PySem.NumText (digitsVal AllDigits)
theorem eqAs_self' : ∀ {xs : List D},(∀ x ∈ xs,eqA x x = true)->eqAs xs xs = true
 | [],_=>by simp [eqAs]
 | x::xs,h=>by
  simp only [eqAs]
  rw [h x (by simp),eqAs_self' fun y hy=>h y (List.mem_cons_of_mem _ hy)]
  rfl
theorem eqA_refl : ∀ (n : Nat) {d : D},plainN n d = true->eqA d d = true
 | n,.non,_=>by cases n <;> rfl
 | n,.bl b,_=>by simp [eqA,flatD,toV,eqV]
 | n,.int i,_=>by simp [eqA,flatD,toV,eqV]
 | n,.str z,_=>by simp [eqA,flatD,toV,eqV]
 | 0,.tup xs,h=>by simp [plainN] at h
 | 0,.lst xs,h=>by simp [plainN] at h
 | n + 1,.tup xs,h=>by
  have h : xs.all (plainN n) = true:=h
  simp only [eqA]
  exact eqAs_self' fun x hx=>eqA_refl n (List.all_eq_true.mp h x hx)
 | n + 1,.lst xs,h=>by
  have h : xs.all (plainN n) = true:=h
  simp only [eqA]
  exact eqAs_self' fun x hx=>eqA_refl n (List.all_eq_true.mp h x hx)
 | n,.dic _ _,h=>by cases n <;> simp [plainN] at h
 | n,.obj _ _ _,h=>by cases n <;> simp [plainN] at h
theorem eq_self {xs : List D} {R : D->Prop} (h : xs.all (plainN 8) = true) (k : R (.bl true)) : Op (eqO false (.tup xs) (.tup xs)) R:=by
 refine op_of ?_ k
 show Option.or none (Option.or (if xs.all (plainN 8) = true /\ xs.all (plainN 8) = true then some (D.bl (eqAs xs xs)) else none) _) = _
 rw [if_pos ⟨h,h⟩,eqAs_self' fun x hx=>eqA_refl 8 (List.all_eq_true.mp h x hx)]
 rfl
theorem ne_self {xs : List D} {R : D->Prop} (h : xs.all (plainN 8) = true) (k : R (.bl false)) : Op (neE (.tup xs) (.tup xs)) R:=by
 refine o_neE ?_
 refine op_of ?_ k
 show Option.or none (Option.or (if xs.all (plainN 8) = true /\ xs.all (plainN 8) = true then some (D.bl (!eqAs xs xs)) else none) _) = _
 rw [if_pos ⟨h,h⟩,eqAs_self' fun x hx=>eqA_refl 8 (List.all_eq_true.mp h x hx)]
 rfl
theorem num_name {w : W} (h : nmB w = true) : numB w = false:=by
 obtain ⟨h1,h2,h3,h4⟩:=nm_is h
 cases w with
 | nil=>simp at h1
 | cons c w=>
  have hc:=h4 c (by simp)
  unfold smallC at hc
  rw [Bool.and_eq_true,decide_eq_true_iff,decide_eq_true_iff] at hc
  have hf : c ∈ figs (c::w):=by
   unfold figs
   split
   ·rename_i e; cases e; omega
   ·simp
  unfold numB
  rw [nat_no (p:=figC) hf (by unfold figC; rw [decide_eq_false (show ¬ c <= 57 by omega),Bool.and_false])]
  simp
theorem rt_name {w : W} (h : nmB w = true) : rt w = sD w:=by unfold rt; rw [num_name h]; rfl
theorem u_name {w : W} (h : nmB w = true) : isU w = false:=by
 unfold isU
 rw [decide_eq_false (nm_ne h (by decide)),decide_eq_false (nm_ne h (by decide))]; rfl
section
variable {p a b : W} {m : Nat} (hp : nmB p = true) (ha : nmB a = true) (hb : nmB b = true) (hm : 1 <= m /\ m <= 10 ^ 20)
include hp ha hb hm
theorem nv_n : nv (dg m) = m:=by
 obtain ⟨c,r,e,hc⟩:=(num_of hm.1 hm.2).hd
 have : nv (dg m) = ((digitsVal (dg m) : Nat) : Int):=by
  unfold nv
  split
  ·rename_i e2; rw [e] at e2; cases e2; omega
  ·rfl
 rw [this,dg_val]
theorem rt_n : rt (dg m) = .int m:=by unfold rt; rw [(num_of hm.1 hm.2).num,if_pos rfl,nv_n hp ha hb hm]
theorem rt_neg : rt (45::dg m) = .int (0 - (m : Int)):=by
 unfold rt
 rw [(num_of hm.1 hm.2).neg,if_pos rfl]
 show D.int (-((digitsVal (dg m) : Nat) : Int)) = _
 rw [dg_val,Int.zero_sub]
def wF (p a : W) (m : Nat) : List W:=[p,a,45::dg m]
theorem tx_F : Tx0 (wF p a m):=by
 have hn:=num_of hm.1 hm.2
 refine ⟨by simp [wF],fun w hw=>?_,fun w hw=>?_,by simp [wF]⟩
 ·simp [wF] at hw
  rcases hw with rfl | rfl | rfl
  ·exact nm_nb hp
  ·exact nm_nb ha
  ·have:=hn.nb; simp [this]
 ·have:=(nm_is hp).2.1; have:=(nm_is ha).2.1; have:=hn.le
  simp [wF] at hw
  rcases hw with rfl | rfl | rfl <;> simp <;> omega
theorem good_F : M_read_fact [.str (S (jB (wF p a m)))] = some (.sh (.tup [sD p,.tup [sD a,.int (0 - (m : Int))]])):=by
 have ok : okF (wF p a m) = true:=by
  show (nmB p && decide (([a,45::dg m] : List W).length <= 4) && ([a,45::dg m] : List W).all cnB) = true
  rw [hp]
  simp [cnB,ha,(num_of hm.1 hm.2).neg]
 rw [rf_ok (tx_F hp ha hb hm).tx ok]
 show some (Rs.sh (.tup [sD p,.tup [rt a,rt (45::dg m)]])) = _
 rw [rt_name ha,rt_neg hp ha hb hm]
def wR (p a b : W) (m : Nat) : List W:=[p,[88],wSum,[89],wIf,a,[88],[89],[48,44],wNot,b,[89,44],wUnder,[88],dg m]
theorem tx_R : Tx0 (wR p a b m):=by
 have hn:=num_of hm.1 hm.2
 refine ⟨by simp [wR],fun w hw=>?_,fun w hw=>?_,by simp [wR]⟩
 ·simp [wR] at hw
  rcases hw with rfl | rfl | rfl | rfl | rfl | rfl | rfl | rfl | rfl | rfl | rfl | rfl | rfl | rfl | rfl
  all_goals first | exact nm_nb hp | exact nm_nb ha | exact nm_nb hb | exact hn.nb | decide
 ·have:=(nm_is hp).2.1; have:=(nm_is ha).2.1; have:=(nm_is hb).2.1; have:=hn.le
  simp [wR] at hw
  rcases hw with rfl | rfl | rfl | rfl | rfl | rfl | rfl | rfl | rfl | rfl | rfl | rfl | rfl | rfl | rfl
  all_goals first | omega | decide
def gR (p a b : W) (m : Nat) : D:=.tup [sD p,.tup [sD [88],.tup [sD wSum,sD [89]]],.tup [.tup [sD wYes,sD a,.tup [sD [88],sD [89],.int 0]],.tup [sD wNot,sD b,.tup [sD [89]]],.tup [sD wUnder,sD [88],.int m]]]
theorem good_R : M_read_rule [.str (S (jB (wR p a b m)))] = some (.sh (gR p a b m)):=by
 have hn:=num_of hm.1 hm.2
 have tx:=(tx_R hp ha hb hm).tx
 have e1 : prs (wR p a b m) = ([p,[88],wSum,[89]],[a,[88],[89],[48,44],wNot,b,[89,44],wUnder,[88],dg m]):=rfl
 have e2 : bpW [a,[88],[89],[48,44],wNot,b,[89,44],wUnder,[88],dg m] = [[a,[88],[89],[48]],[wNot,b,[89]],[wUnder,[88],dg m]]:=by
  have la:=nm_last ha
  have lb:=nm_last hb
  simp [bpW,consL,la,lb,wNot,wUnder]
 have P:=pt_of tx
 have key : M_is_rule [rD (prs (wR p a b m)).1 (bpW (prs (wR p a b m)).2)] = some (.sh (.bl true)) /\ rD (prs (wR p a b m)).1 (bpW (prs (wR p a b m)).2) = gR p a b m:=by
  rw [e1] at P ⊢
  dsimp only at P ⊢
  rw [e2] at P ⊢
  have l1 : lD [a,[88],[89],[48]] = .tup [sD wYes,sD a,.tup [sD [88],sD [89],.int 0]]:=by
   rw [lD_cons,u_name ha,if_neg Bool.false_ne_true,if_neg (nm_ne ha (by decide))]
   rfl
  have l2 : lD [wNot,b,[89]] = .tup [sD wNot,sD b,.tup [sD [89]]]:=rfl
  have l3 : lD [wUnder,[88],dg m] = .tup [sD wUnder,sD [88],.int m]:=by
   rw [lD_cons,if_pos (by decide)]
   show D.tup [sD wUnder,rt [88],rt (dg m)] = _
   rw [rt_n hp ha hb hm]
   rfl
  have eD : rD [p,[88],wSum,[89]] [[a,[88],[89],[48]],[wNot,b,[89]],[wUnder,[88],dg m]] = gR p a b m:=by
   show D.tup [sD p,.tup (hT [[88],wSum,[89]]),.tup [lD [a,[88],[89],[48]],lD [wNot,b,[89]],lD [wUnder,[88],dg m]]] = _
   rw [l1,l2,l3]
   rfl
  refine ⟨?_,eD⟩
  have ok : okR [p,[88],wSum,[89]] [[a,[88],[89],[48]],[wNot,b,[89]],[wUnder,[88],dg m]] = true:=by
   have o1 : okLit [a,[88],[89],[48]] = true:=by
    rw [okLit_cons,u_name ha,if_neg Bool.false_ne_true,if_neg (nm_ne ha (by decide)),ha]; rfl
   have o2 : okLit [wNot,b,[89]] = true:=by
    rw [okLit_cons,if_neg (by decide),if_pos rfl]
    show (nmB b && _) = true
    rw [hb]; rfl
   have o3 : okLit [wUnder,[88],dg m] = true:=by
    rw [okLit_cons,if_pos (by decide)]
    show (tmB [88] && tmB (dg m)) = true
    have : tmB (dg m) = true:=by unfold tmB; rw [hn.num]; rfl
    rw [this]; rfl
   have y1 : isY [a,[88],[89],[48]] = true:=by
    show (!isU a && !decide (a = wNot)) = true
    rw [u_name ha,decide_eq_false (nm_ne ha (by decide))]; rfl
   unfold okR
   show (nmB p && (okH [[88],wSum,[89]] && okB _)) = true
   rw [hp]
   have h1 : okH [[88],wSum,[89]] = true:=rfl
   have h2 : okB [[a,[88],[89],[48]],[wNot,b,[89]],[wUnder,[88],dg m]] = true:=by
    unfold okB
    rw [show List.all [[a,[88],[89],[48]],[wNot,b,[89]],[wUnder,[88],dg m]] okLit = true by simp [o1,o2,o3]]
    have : (List.filter isY [[a,[88],[89],[48]],[wNot,b,[89]],[wUnder,[88],dg m]]).length <= 4:=Nat.le_trans (List.length_filter_le _ _) (by simp)
    rw [decide_eq_true this]
    rfl
   rw [h1,h2]; rfl
  have hv : M_rule_variables [gR p a b m] = some (.fr (.lst [sD [88],sD [89]])):=by kernel_rfl
  rw [<- eD] at hv
  rw [e_isrule P ok hv]
  rfl
 rw [rr_ok tx key.1,key.2]
end
theorem law_true (ns : List Int) (h : ns.length <= 63) : M_law [.lst (ns.map D.int)] = some (.sh (.bl true)):=by
 obtain ⟨_,e0,c0,rfl⟩:=e_cell ns 0 h (by decide)
 obtain ⟨_,e1,c1,rfl⟩:=e_cell ns 1 h (by decide)
 obtain ⟨_,eN,zs,rfl,hz,hnm⟩:=e_names c0 3 (by decide)
 obtain ⟨p,a,b,rfl⟩ : ∃ p a b,zs = [p,a,b]:=by
  match zs,hz with
  | [p,a,b],_=>exact ⟨p,a,b,rfl⟩
 have hp:=hnm p (by simp)
 have ha:=hnm a (by simp)
 have hb:=hnm b (by simp)
 obtain ⟨m,em,hm⟩ : ∃ m : Nat,1 + c1 % 10 ^ 20 = m /\ 1 <= m /\ m <= 10 ^ 20:=by
  have h1:=Int.emod_nonneg c1 (show (10 ^ 20 : Int) ≠ 0 by decide)
  have h2:=Int.emod_lt_of_pos c1 (show (0 : Int) < 10 ^ 20 by decide)
  exact ⟨(1 + c1 % 10 ^ 20).toNat,by omega,by omega,by omega⟩
 have hN:=num_of hm.1 hm.2
 have H : Hyp p a (dg m):=⟨hp,ha,hN⟩
 have lp:=(nm_is hp).2.1
 have la:=(nm_is ha).2.1
 have lb:=(nm_is hb).2.1
 have ln:=hN.le
 refine Op.eq ?_
 unfold M_law fb_law
 walk_at "wrun"
 walk_at "wp"
 refine op_of e0 ?_
 walk_at "wp"
 refine op_of eN ?_
 walk_at "wp"
 refine op_of e1 ?_
 walk_at "wp"
 rw [show (10 : Int) ^ (Int.toNat 20) = 10 ^ 20 from rfl,em]
 refine op_of (str_num (by omega)) ?_
 walk_at "wp"
 refine o_ixL (k:=0) rfl ?_
 walk_at "wp"
 rw [blank_is]
 refine add_S (p:=p) (by simp; omega) ?_
 walk_at "wp"
 refine o_ixL (k:=1) rfl ?_
 refine add_S (q:=a) (by simp; omega) ?_
 walk_at "wp"
 rw [show (" -" : Str) = S [32,45] by decide +kernel]
 refine add_S (by simp; omega) ?_
 walk_at "wp"
 refine add_S (by simp; omega) ?_
 rw [show p++[32]++a++[32,45]++dg m = jB (wF p a m) by simp [wF,jB]]
 walk_at "wp"
 refine o_ixL (k:=0) rfl ?_
 walk_at "wp"
 rw [show (" X sum Y if " : Str) = S [32,88,32,115,117,109,32,89,32,105,102,32] by decide +kernel]
 refine add_S (p:=p) (by simp; omega) ?_
 walk_at "wp"
 refine o_ixL (k:=1) rfl ?_
 refine add_S (q:=a) (by simp; omega) ?_
 walk_at "wp"
 rw [show (" X Y 0, not " : Str) = S [32,88,32,89,32,48,44,32,110,111,116,32] by decide +kernel]
 refine add_S (by simp; omega) ?_
 walk_at "wp"
 refine o_ixL (k:=2) rfl ?_
 refine add_S (q:=b) (by simp; omega) ?_
 walk_at "wp"
 rw [show (" Y, under X " : Str) = S [32,89,44,32,117,110,100,101,114,32,88,32] by decide +kernel]
 refine add_S (by simp; omega) ?_
 walk_at "wp"
 refine add_S (by simp; omega) ?_
 rw [show p++[32,88,32,115,117,109,32,89,32,105,102,32]++a++[32,88,32,89,32,48,44,32,110,111,116,32]++b++[32,89,44,32,117,110,100,101,114,32,88,32]++dg m = jB (wR p a b m) by simp [wR,jB,wSum,wIf,wNot,wUnder]]
 walk_at "wp"
 rw [List.length_map]
 obtain ⟨L,eL,hL⟩ : ∃ L : Nat,(if (if (ns.length : Int) < 32 then (ns.length : Int) else 32) > 12 then (if (ns.length : Int) < 32 then (ns.length : Int) else 32) else 12) = (L : Int) /\ L <= 32:=by
  refine ⟨(if (if (ns.length : Int) < 32 then (ns.length : Int) else 32) > 12 then (if (ns.length : Int) < 32 then (ns.length : Int) else 32) else 12).toNat,?_,?_⟩
  ·split <;> split <;> omega
  ·split <;> split <;> omega
 rw [eL]
 refine ⟨by omega,?_⟩
 refine so_forL (fun _ δ=>∃ x5 x6 x7 x8 x9 : Option Sl,δ = [some (.sh (.lst (ns.map D.int))),some (.sh (.lst [sD p,sD a,sD b])),some (.sh (.str (S (dg m)))),some (.sh (.str (S (jB (wF p a m))))),some (.sh (.str (S (jB (wR p a b m))))),x5,x6,x7,x8,x9,none]) ⟨none,none,none,none,none,rfl⟩ ?_ ?_
 ·rintro k x hx δ ⟨x5,x6,x7,x8,x9,rfl⟩
  obtain ⟨j,rfl,hj⟩ : ∃ j : Nat,x = .int j /\ j <= 63:=by
   obtain ⟨h1,h2⟩:=List.getElem?_eq_some_iff.mp hx
   have h3 : k < ((L : Int) - 2).toNat:=by simpa [rngD] using h1
   refine ⟨2 + k,?_,by omega⟩
   rw [<- h2]
   simp [rngD]
  obtain ⟨_,eC,c,rfl⟩:=e_cell ns j h hj
  obtain ⟨_,eS,ys,rfl,hy⟩:=e_stream c 4 (by decide)
  obtain ⟨y0,y1,y2,y3,rfl⟩ : ∃ y0 y1 y2 y3,ys = [y0,y1,y2,y3]:=by
   match ys,hy with
   | [y0,y1,y2,y3],_=>exact ⟨y0,y1,y2,y3,rfl⟩
  dsimp only [List.set]
  walk_at "wpn"
  refine op_of eC ?_
  walk_at "wpn"
  refine op_of eS ?_
  walk_at "wpn"
  refine o_ixL (k:=0) rfl ?_
  walk_at "wpn"
  have hw : y0 % 2 = 0 \/ y0 % 2 = 1:=by omega
  have rest : ∀ (w : Int) (vs : List W) (x9 : Option Sl),M__law_refused [.str (S (jB vs)),.int w] = some (.sh (.bl true))->So (sSeq (sIf (bNot (fB (fPub (fCallR M__law_refused (fCons (fVar 8) (fCons (fVar 7) fNil)))))) (sSeq (sRet (fSh (fC (D.bl false)))) sNil) sNil)
    (sSeq (sIf (fB (f2 neE (fPub (fCallR M_read_fact (fCons (fVar 3) fNil))) (fTup (fCons (f2 ixA (fVarB 1) (fC (D.int 0))) (fCons (fTup (fCons (f2 ixA (fVarB 1) (fC (D.int 1))) (fCons (f2 subD (fC (D.int 0)) (fCallB intT (fCons (fVarB 2) fNil))) fNil))) fNil))))) (sSeq (sRet (fSh (fC (D.bl false)))) sNil) sNil) sNil)
    [some (.sh (.lst (ns.map D.int))),some (.sh (.lst [sD p,sD a,sD b])),some (.sh (.str (S (dg m)))),some (.sh (.str (S (jB (wF p a m))))),some (.sh (.str (S (jB (wR p a b m))))),some (.sh (.int j)),some (.sh (.lst [.int y0,.int y1,.int y2,.int y3])),some (.sh (.int w)),some (.sh (.str (S (jB vs)))),x9,none])
    (fun δ=>∃ x5 x6 x7 x8 x9 : Option Sl,δ = [some (.sh (.lst (ns.map D.int))),some (.sh (.lst [sD p,sD a,sD b])),some (.sh (.str (S (dg m)))),some (.sh (.str (S (jB (wF p a m))))),some (.sh (.str (S (jB (wR p a b m))))),x5,x6,x7,x8,x9,none]) (fun r _=>r = Rs.sh (D.bl true)):=by
   intro w vs x9 hr
   walk_at "wp"
   refine op_of hr ?_
   walk_at "wp"
   refine op_of (good_F hp ha hb hm) ?_
   walk_at "wp"
   refine o_ixL (k:=0) rfl ?_
   walk_at "wp"
   refine o_ixL (k:=1) rfl ?_
   walk_at "wp"
   refine op_of (num_int hN.num) ?_
   rw [nv_n hp ha hb hm]
   walk_at "wp"
   refine ⟨(by show (2 : Nat) <= sizeLine; decide),?_⟩
   walk_at "wp"
   refine ⟨(by show (2 : Nat) <= sizeLine; decide),?_⟩
   refine ne_self (by rfl) ?_
   walk_at "wp"
   exact ⟨_,_,_,_,_,rfl⟩
  obtain ⟨xf,ef,lf,bf⟩:=odd_f H
  obtain ⟨xr,er,lr,br⟩:=odd_r H
  rcases hw with hw | hw
  ·rw [hw]
   obtain ⟨vs,w,eV,tV,dV,mV⟩:=e_spoiled (tx_F hp ha hb hm) y1 y2
   refine ⟨(by show (2 : Nat) <= sizeLine; decide),?_⟩
   walk_at "wpn"
   refine o_ixL (k:=0) rfl ?_
   walk_at "wpn"
   refine o_ixL (k:=1) rfl ?_
   walk_at "wpn"
   refine o_ixL (k:=2) rfl ?_
   walk_at "wpn"
   refine op_of eV ?_
   walk_at "wpn"
   refine so_mid (fun δ=>∃ vs x9,δ = [some (.sh (.lst (ns.map D.int))),some (.sh (.lst [sD p,sD a,sD b])),some (.sh (.str (S (dg m)))),some (.sh (.str (S (jB (wF p a m))))),some (.sh (.str (S (jB (wR p a b m))))),some (.sh (.int j)),some (.sh (.lst [.int y0,.int y1,.int y2,.int y3])),some (.sh (.int 0)),some (.sh (.str (S (jB vs)))),x9,none] /\ M__law_refused [.str (S (jB vs)),.int 0] = some (.sh (.bl true))) ?_ ?_
   ·walk_at "wp"
    refine o_ixL (k:=3) rfl ?_
    walk_at "wp"
    refine o_cond (fun _=>?_) fun _=>?_
    ·walk_at "wp"
     refine o_ixL (k:=0) rfl ?_
     walk_at "wp"
     refine o_ixL (k:=1) rfl ?_
     walk_at "wp"
     refine op_of ef ?_
     walk_at "wp"
     refine o_ixL (k:=1) rfl ?_
     walk_at "wp"
     rw [lf]
     walk_at "wp"
     refine o_ixLm (Int.emod_nonneg _ (by decide)) (by rw [lf]; exact Int.emod_lt_of_pos _ (by decide)) fun d hd=>?_
     obtain ⟨us,rfl,tu,ku⟩:=bf d hd
     walk_at "wp"
     exact ⟨us,_,rfl,ref_0 tu ku⟩
    ·walk_at "wp"
     exact ⟨vs,_,rfl,ref_0 tV (dead_F dV mV)⟩
   ·rintro δ ⟨vs,x9,rfl,hr⟩
    exact rest 0 vs x9 hr
  ·rw [hw]
   obtain ⟨vs,w,eV,tV,dV,mV⟩:=e_spoiled (tx_R hp ha hb hm) y1 y2
   refine ⟨(by show (2 : Nat) <= sizeLine; decide),?_⟩
   walk_at "wpn"
   refine o_ixL (k:=1) rfl ?_
   walk_at "wpn"
   refine o_ixL (k:=1) rfl ?_
   walk_at "wpn"
   refine o_ixL (k:=2) rfl ?_
   walk_at "wpn"
   refine op_of eV ?_
   walk_at "wpn"
   refine so_mid (fun δ=>∃ vs x9,δ = [some (.sh (.lst (ns.map D.int))),some (.sh (.lst [sD p,sD a,sD b])),some (.sh (.str (S (dg m)))),some (.sh (.str (S (jB (wF p a m))))),some (.sh (.str (S (jB (wR p a b m))))),some (.sh (.int j)),some (.sh (.lst [.int y0,.int y1,.int y2,.int y3])),some (.sh (.int 1)),some (.sh (.str (S (jB vs)))),x9,none] /\ M__law_refused [.str (S (jB vs)),.int 1] = some (.sh (.bl true))) ?_ ?_
   ·walk_at "wp"
    refine o_ixL (k:=3) rfl ?_
    walk_at "wp"
    refine o_cond (fun _=>?_) fun _=>?_
    ·walk_at "wp"
     refine o_ixL (k:=0) rfl ?_
     walk_at "wp"
     refine o_ixL (k:=1) rfl ?_
     walk_at "wp"
     refine op_of ef ?_
     walk_at "wp"
     refine o_ixL (k:=0) rfl ?_
     walk_at "wp"
     refine o_ixL (k:=1) rfl ?_
     walk_at "wp"
     refine op_of er ?_
     walk_at "wp"
     refine o_ixL (k:=1) rfl ?_
     walk_at "wp"
     rw [lr]
     walk_at "wp"
     refine o_ixLm (Int.emod_nonneg _ (by decide)) (by rw [lr]; exact Int.emod_lt_of_pos _ (by decide)) fun d hd=>?_
     obtain ⟨us,rfl,tu,ku⟩:=br d hd
     walk_at "wp"
     exact ⟨us,_,rfl,ref_1 tu ku⟩
    ·walk_at "wp"
     exact ⟨vs,_,rfl,ref_1 tV (bad_r tV (dead_R dV mV tV.ne))⟩
   ·rintro δ ⟨vs,x9,rfl,hr⟩
    exact rest 1 vs x9 hr
 ·rintro δ ⟨x5,x6,x7,x8,x9,rfl⟩
  walk_at "wp"
  refine o_ixL (k:=1) rfl ?_
  walk_at "wp"
  refine ⟨(by show (3 : Nat) <= sizeLine; decide),?_⟩
  walk_at "wp"
  refine ⟨(by show (3 : Nat) <= sizeLine; decide),?_⟩
  walk_at "wp"
  refine o_ixL (k:=2) rfl ?_
  walk_at "wp"
  refine ⟨(by show (1 : Nat) <= sizeLine; decide),?_⟩
  walk_at "wp"
  refine ⟨(by show (3 : Nat) <= sizeLine; decide),?_⟩
  walk_at "wp"
  refine op_of (num_int hN.num) ?_
  rw [nv_n hp ha hb hm]
  walk_at "wp"
  refine ⟨(by show (3 : Nat) <= sizeLine; decide),?_⟩
  walk_at "wp"
  refine ⟨(by show (3 : Nat) <= sizeLine; decide),?_⟩
  walk_at "wp"
  refine op_of (good_R hp ha hb hm) ?_
  walk_at "wp"
  refine o_ixL (k:=0) rfl ?_
  walk_at "wp"
  refine ⟨(by show (2 : Nat) <= sizeLine; decide),?_⟩
  walk_at "wp"
  refine ⟨(by show (2 : Nat) <= sizeLine; decide),?_⟩
  walk_at "wp"
  refine ⟨(by show (3 : Nat) <= sizeLine; decide),?_⟩
  have fin : ∀ (x : D),x = gR p a b m->Op (eqO false (gR p a b m) x) fun d=>Rs.sh d = Rs.sh (D.bl true):=by
   rintro x rfl
   exact eq_self (by rfl) rfl
  refine fin _ ?_
  rfl
theorem all_ok {P : Program} {w : World} {K : PySem.W.Frag} {mg : Str->Option Value} {base : Heap} (T : Txt K mg) {f : Addr} {fd : FuncData} (F : Fun K "law" "law" (top 55) f fd) : FnOk P w K mg base CX0 11 f fd ["_law_script"] (spD K M_law):=by
 have ok_is_whole:=mk_is_whole (P:=P) (w:=w) (base:=base) T
 have ok_is_small:=mk_is_small (P:=P) (w:=w) (base:=base) T
 have ok_is_big:=mk_is_big (P:=P) (w:=w) (base:=base) T
 have ok_is_figure:=mk_is_figure (P:=P) (w:=w) (base:=base) T
 have ok_is_short_text:=mk_is_short_text (P:=P) (w:=w) (base:=base) T
 have ok_is_name:=mk_is_name (P:=P) (w:=w) (base:=base) T ok_is_short_text ok_is_small
 have ok_is_constant:=mk_is_constant (P:=P) (w:=w) (base:=base) T ok_is_name ok_is_whole
 have ok_is_variable:=mk_is_variable (P:=P) (w:=w) (base:=base) T ok_is_big ok_is_figure ok_is_short_text ok_is_small
 have ok_is_term:=mk_is_term (P:=P) (w:=w) (base:=base) T ok_is_constant ok_is_variable
 have ok_is_fact:=mk_is_fact (P:=P) (w:=w) (base:=base) T ok_is_constant ok_is_name
 have ok_are_terms:=mk_are_terms (P:=P) (w:=w) (base:=base) T ok_is_term
 have ok_is_literal:=mk_is_literal (P:=P) (w:=w) (base:=base) T ok_are_terms ok_is_name ok_is_term
 have ok_is_grouping:=mk_is_grouping (P:=P) (w:=w) (base:=base) T ok_is_variable
 have ok_are_head_terms:=mk_are_head_terms (P:=P) (w:=w) (base:=base) T ok_are_terms ok_is_grouping
 have ok_is_body:=mk_is_body (P:=P) (w:=w) (base:=base) T ok_is_literal
 have ok_has_predicate:=mk_has_predicate (P:=P) (w:=w) (base:=base) T
 have ok_literal_variables:=mk_literal_variables (P:=P) (w:=w) (base:=base) T ok_has_predicate ok_is_variable
 have ok_body_variables:=mk_body_variables (P:=P) (w:=w) (base:=base) T ok_literal_variables
 have ok_is_group:=mk_is_group (P:=P) (w:=w) (base:=base) T
 have ok_head_variables:=mk_head_variables (P:=P) (w:=w) (base:=base) T ok_is_group ok_is_variable
 have ok_rule_variables:=mk_rule_variables (P:=P) (w:=w) (base:=base) T ok_body_variables ok_head_variables
 have ok_is_rule:=mk_is_rule (P:=P) (w:=w) (base:=base) T ok_are_head_terms ok_is_body ok_is_name ok_rule_variables
 have ok_is_numeral:=mk_is_numeral (P:=P) (w:=w) (base:=base) T ok_is_figure
 have ok_read_terms:=mk_read_terms (P:=P) (w:=w) (base:=base) T ok_is_numeral
 have ok_read_fact:=mk_read_fact (P:=P) (w:=w) (base:=base) T ok_is_fact ok_read_terms
 have okE_read_fact:=mkE_read_fact (P:=P) (w:=w) (base:=base) T ok_is_fact ok_read_terms
 have ok_read_literal:=mk_read_literal (P:=P) (w:=w) (base:=base) T ok_read_terms
 have ok_read_head_terms:=mk_read_head_terms (P:=P) (w:=w) (base:=base) T ok_read_terms
 have ok_read_rule:=mk_read_rule (P:=P) (w:=w) (base:=base) T ok_is_rule ok_read_head_terms ok_read_literal
 have okE_read_rule:=mkE_read_rule (P:=P) (w:=w) (base:=base) T ok_is_rule ok_read_head_terms ok_read_literal
 have ok__law_cell:=mk__law_cell (P:=P) (w:=w) (base:=base) T
 have ok__law_stream:=mk__law_stream (P:=P) (w:=w) (base:=base) T
 have ok__law_names:=mk__law_names (P:=P) (w:=w) (base:=base) T ok__law_stream
 have ok__law_refused:=mk__law_refused (P:=P) (w:=w) (base:=base) T ok_read_fact okE_read_fact ok_read_rule okE_read_rule
 have ok__law_odd_facts:=mk__law_odd_facts (P:=P) (w:=w) (base:=base) T
 have ok__law_odd_rules:=mk__law_odd_rules (P:=P) (w:=w) (base:=base) T
 have ok__law_spoiled:=mk__law_spoiled (P:=P) (w:=w) (base:=base) T
 exact mk_law T F ok__law_cell ok__law_names ok__law_odd_facts ok__law_odd_rules ok__law_refused ok__law_spoiled ok__law_stream ok_read_fact okE_read_fact ok_read_rule okE_read_rule
theorem walk {l : PySem.W.OpenLaw} {q : Program} {loose : List Str} {XP : (Str->Option Value)->Heap->Prop} {YP : World->Heap->Prop} {d : DefRec} {K : Params->PySem.W.Frag} (hn : l.most = some 63) (hdf : d.params.defaults = []) (hnm : d.name = "law")
  (hY : ∀ (w : World) (h : Heap),YP w h->(K w.params).In h)
  (F : ∀ (w : World) (mg : Str->Option Value) (h : Heap),(K w.params).In h->h.Ns mainGlobals mg->Txt (K w.params) mg) :
  PySem.W.WalkO q loose XP YP l.row.toRowW d [] (fun f vs=>PySem.call f vs):=
 L2.walk_ofK (n:=63) (k:=11) (x:="_law_script") (CX:=CX0) (sp:=fun K=>spD K M_law) hn (by decide) hdf ⟨rfl,by decide,by decide⟩ hY
  (fun w mg fa h KX G hm=>law_at (by rw [<- hnm]; exact hm) (F w mg h KX G).d_law (fun _ _ _ _ _ _ _=>rfl) fun f fd base Fn=>all_ok (F w mg h KX G) Fn)
  (fun K H a ns hl _ hS=>law_sp hS (law_true ns hl)) fun _ _ _ _ z=>z
end K42
open PySem PySem.W PyProof.Rows L2
namespace L2
open PySem PySem.W PyProof.Rows PySem.Calls
theorem leftO_once {p q : Program} {loose : List Str} {Xt : Shared->Bool} {α : Type} {Yf : Shared->α} {Ya : World->α} {N : Nat} (e : opening p = plainProg p.main.scope.names) (hN : Nat.ble 600 N = true) (f : ∀ s,fenceModules? p s = some s)
  (h : ∀ w os,(topFrom treeTable p w N ⟨boot_heap w.params,Array.mk [],boot_drawn,boot_toks,os⟩).map (fun s=>(openSeen q loose (importedModules p.main.body) Xt true s,Yf s)) = some (openGood q loose,Ya w)) : LeftO p q loose Xt Yf Ya N:=fun w=>by
 obtain ⟨⟨hp,gs,d,k,os⟩,e1,e'⟩:=omE (boot_open e hN f w)
 obtain ⟨rfl,rfl,rfl,rfl⟩ : hp = boot_heap w.params /\ gs = Array.mk [] /\ d = boot_drawn /\ k = boot_toks:=by simpa using e'
 unfold openEnds
 rw [e1]
 exact h w os
end L2
noncomputable def PySem.W.Fast.tw14056198368211442197 : Program:=PySem.Challenge.pw_reason_k42_texts_refused
theorem PySem.W.Fast.te14056198368211442197 : PySem.Challenge.pw_reason_k42_texts_refused = PySem.W.Fast.tw14056198368211442197:=rfl
namespace K42
open PySem PySem.W PyProof.Rows L2
abbrev so:=Str.ofString
abbrev kF (x : String) (st : Stmt) (m : String) (i : Nat) (c : Addr) : Obj:={ cls:=.type "function",data:=.func { name:=so x,qualname:=so x,params:=defArgs st,body:=.stmts (defBody st),scope:=defScope st,globals:=3,closure:=[],defaults:=.none,kwdefaults:=.none,pyModule:=.str (so m) i,code:=.ref c } }
abbrev kC (x : String) (i j k : Nat) (l n v : Int) (a : Addr) (z : Int) (b c d e : Addr) (h : Int) (y : Nat) : Obj:={ cls:=.type "code",data:=.fields #[.str (so x) i,.str (so x) j,.str (so "/claim/cut.py") k,.int l 0,.int n 0,.int 0 0,.int 0 0,.int v 0,.ref a,.bool true,.int z 0,.ref b,.none,.ref c,.ref d,.ref e,.int h 0,.int l 0,.str (so "/claim/cut.py") y] }
abbrev kE (P : Params) (x : String) (i : Nat) (v : Value) : DictEntry:={ hash:=PyData.keyHash P (so x),key:=.str (so x) i,val:=v }
abbrev kR (P : Params) (x : String) (i : Nat) (a : Addr) : DictEntry:=kE P x i (.ref a)
set_option maxRecDepth 100000
noncomputable def KF (P : Params) : Frag:=
(nat_lit 2,{ cls:=.none,data:=Data.dict #[] })::
(nat_lit 3,{ cls:=.type "dict",data:=Data.dict #[kE P "__name__" 165 (.str (so "law_reason_k42_texts_refused") 536),kE P "__doc__" 166 (.none),kE P "__package__" 167 (.none),kE P "__loader__" 168 (.builtin "__main__.__loader__#opaque"),kE P "__spec__" 169 (.none),kR P "__annotations__" 170 6,kR P "__builtins__" 171 4,kE P "__file__" 173 (.str (so "/claim/cut.py") 172),kE P "__cached__" 174 (.none),kR P "ReasonError" 206 24,kR P "NoName" 222 37,kR P "NoFact" 238 49,kR P "NoRule" 254 61,kR P "Unlike" 270 73,kR P "Unsafe" 286 85,kR P "Missing" 302 97,kR P "NoText" 318 109,kE P "LONGEST" 322 (.int 8 321),kE P "MOST_PLACES" 324 (.int 4 323),kR P "WORDS" 332 112,kR P "is_whole" 339 119,kR P "is_small" 346 126,kR P "is_big" 353 133,kR P "is_figure" 360 140,kR P "is_short_text" 367 147,kR P "is_name" 373 152,kR P "is_constant" 380 159,kR P "is_variable" 386 164,kR P "is_term" 393 171,kR P "is_fact" 399 176,kE P "MOST_LITERALS" 403 (.int 6 402),kE P "MOST_YES" 405 (.int 4 404),kE P "MOST_VARIABLES" 407 (.int 4 406),kR P "are_terms" 413 181,kR P "is_literal" 420 188,kR P "is_grouping" 427 195,kR P "are_head_terms" 434 202,kR P "is_body" 440 207,kR P "is_rule" 447 214,kR P "is_group" 454 221,kR P "has_predicate" 461 228,kR P "literal_variables" 467 233,kR P "head_variables" 473 238,kR P "body_variables" 482 245,kR P "rule_variables" 489 252,kE P "MOST_FIGURES" 493 (.int 30 492),kR P "is_numeral" 499 257,kR P "read_terms" 505 262,kR P "read_fact" 514 269,kR P "read_literal" 522 276,kR P "read_head_terms" 529 283,kR P "read_rule" 535 288,kR P "_law_cell" 546 295,kR P "_law_stream" 557 302,kR P "_law_names" 563 307,kR P "_law_refused" 573 314,kR P "_law_odd_facts" 583 321,kR P "_law_odd_rules" 593 328,kR P "_law_spoiled" 605 335,kR P "law" 622 342] 60 })::
(nat_lit 23,{ cls:=.type "dict",data:=Data.dict #[kE P "__module__" 196 (.str (so "reason.errors") 187),kE P "__firstlineno__" 200 (.int 2 199),kR P "__static_attributes__" 201 22,kR P "__weakref__" 203 25,kE P "__doc__" 204 (.none)] 3 })::
(nat_lit 24,{ cls:=.type "type",data:=Data.cls { name:=so "ReasonError",bases:=[.type "ValueError"],mro:=[.ref 24,.type "ValueError",.type "Exception",.type "BaseException",.type "object"],ns:=23,qualname:=so "ReasonError",subclasses:=[.ref 37,.ref 49,.ref 61,.ref 73,.ref 85,.ref 97,.ref 109] },slots:=#[some (.ref 15),none,some (.str (so "ReasonError") 189),some (.str (so "ReasonError") 197),some (.builtin "ValueError.__new__"),some (.bool true)] })::
(nat_lit 25,{ cls:=.type "getset_descriptor",data:=Data.fields #[.str (so "__weakref__") 202,.ref 24,.builtin "ExceptionGroup.__weakref__",.none] })::
(nat_lit 36,{ cls:=.type "dict",data:=Data.dict #[kE P "__module__" 214 (.str (so "reason.errors") 187),kE P "__firstlineno__" 218 (.int 4 217),kR P "__static_attributes__" 219 35,kE P "__doc__" 220 (.none)] 2 })::
(nat_lit 37,{ cls:=.type "type",data:=Data.cls { name:=so "NoName",bases:=[.ref 24],mro:=[.ref 37,.ref 24,.type "ValueError",.type "Exception",.type "BaseException",.type "object"],ns:=36,qualname:=so "NoName" },slots:=#[some (.ref 28),none,some (.str (so "NoName") 207),some (.str (so "NoName") 215),some (.builtin "ValueError.__new__"),some (.bool true)] })::
(nat_lit 48,{ cls:=.type "dict",data:=Data.dict #[kE P "__module__" 230 (.str (so "reason.errors") 187),kE P "__firstlineno__" 234 (.int 6 233),kR P "__static_attributes__" 235 47,kE P "__doc__" 236 (.none)] 2 })::
(nat_lit 49,{ cls:=.type "type",data:=Data.cls { name:=so "NoFact",bases:=[.ref 24],mro:=[.ref 49,.ref 24,.type "ValueError",.type "Exception",.type "BaseException",.type "object"],ns:=48,qualname:=so "NoFact" },slots:=#[some (.ref 40),none,some (.str (so "NoFact") 223),some (.str (so "NoFact") 231),some (.builtin "ValueError.__new__"),some (.bool true)] })::
(nat_lit 60,{ cls:=.type "dict",data:=Data.dict #[kE P "__module__" 246 (.str (so "reason.errors") 187),kE P "__firstlineno__" 250 (.int 8 249),kR P "__static_attributes__" 251 59,kE P "__doc__" 252 (.none)] 2 })::
(nat_lit 61,{ cls:=.type "type",data:=Data.cls { name:=so "NoRule",bases:=[.ref 24],mro:=[.ref 61,.ref 24,.type "ValueError",.type "Exception",.type "BaseException",.type "object"],ns:=60,qualname:=so "NoRule" },slots:=#[some (.ref 52),none,some (.str (so "NoRule") 239),some (.str (so "NoRule") 247),some (.builtin "ValueError.__new__"),some (.bool true)] })::
(nat_lit 72,{ cls:=.type "dict",data:=Data.dict #[kE P "__module__" 262 (.str (so "reason.errors") 187),kE P "__firstlineno__" 266 (.int 10 265),kR P "__static_attributes__" 267 71,kE P "__doc__" 268 (.none)] 2 })::
(nat_lit 73,{ cls:=.type "type",data:=Data.cls { name:=so "Unlike",bases:=[.ref 24],mro:=[.ref 73,.ref 24,.type "ValueError",.type "Exception",.type "BaseException",.type "object"],ns:=72,qualname:=so "Unlike" },slots:=#[some (.ref 64),none,some (.str (so "Unlike") 255),some (.str (so "Unlike") 263),some (.builtin "ValueError.__new__"),some (.bool true)] })::
(nat_lit 84,{ cls:=.type "dict",data:=Data.dict #[kE P "__module__" 278 (.str (so "reason.errors") 187),kE P "__firstlineno__" 282 (.int 12 281),kR P "__static_attributes__" 283 83,kE P "__doc__" 284 (.none)] 2 })::
(nat_lit 85,{ cls:=.type "type",data:=Data.cls { name:=so "Unsafe",bases:=[.ref 24],mro:=[.ref 85,.ref 24,.type "ValueError",.type "Exception",.type "BaseException",.type "object"],ns:=84,qualname:=so "Unsafe" },slots:=#[some (.ref 76),none,some (.str (so "Unsafe") 271),some (.str (so "Unsafe") 279),some (.builtin "ValueError.__new__"),some (.bool true)] })::
(nat_lit 96,{ cls:=.type "dict",data:=Data.dict #[kE P "__module__" 294 (.str (so "reason.errors") 187),kE P "__firstlineno__" 298 (.int 14 297),kR P "__static_attributes__" 299 95,kE P "__doc__" 300 (.none)] 2 })::
(nat_lit 97,{ cls:=.type "type",data:=Data.cls { name:=so "Missing",bases:=[.ref 24],mro:=[.ref 97,.ref 24,.type "ValueError",.type "Exception",.type "BaseException",.type "object"],ns:=96,qualname:=so "Missing" },slots:=#[some (.ref 88),none,some (.str (so "Missing") 287),some (.str (so "Missing") 295),some (.builtin "ValueError.__new__"),some (.bool true)] })::
(nat_lit 108,{ cls:=.type "dict",data:=Data.dict #[kE P "__module__" 310 (.str (so "reason.errors") 187),kE P "__firstlineno__" 314 (.int 16 313),kR P "__static_attributes__" 315 107,kE P "__doc__" 316 (.none)] 2 })::
(nat_lit 109,{ cls:=.type "type",data:=Data.cls { name:=so "NoText",bases:=[.ref 24],mro:=[.ref 109,.ref 24,.type "ValueError",.type "Exception",.type "BaseException",.type "object"],ns:=108,qualname:=so "NoText" },slots:=#[some (.ref 100),none,some (.str (so "NoText") 303),some (.str (so "NoText") 311),some (.builtin "ValueError.__new__"),some (.bool true)] })::
(nat_lit 112,{ cls:=.type "tuple",data:=Data.seq #[.str (so "not") 325,.str (so "if") 326,.str (so "under") 327,.str (so "unlike") 328,.str (so "sum") 329,.str (so "least") 330,.str (so "count") 331] })::
(nat_lit 118,kC "is_whole" 333 334 335 22 1 3 113 181 114 115 116 117 337 338)::
(nat_lit 119,kF "is_whole" (top 13) "reason.terms" 319 118)::
(nat_lit 125,kC "is_small" 340 341 342 24 1 3 120 181 121 122 123 124 344 345)::
(nat_lit 126,kF "is_small" (top 14) "reason.terms" 319 125)::
(nat_lit 132,kC "is_big" 347 348 349 26 1 3 127 181 128 129 130 131 351 352)::
(nat_lit 133,kF "is_big" (top 15) "reason.terms" 319 132)::
(nat_lit 139,kC "is_figure" 354 355 356 28 1 3 134 181 135 136 137 138 358 359)::
(nat_lit 140,kF "is_figure" (top 16) "reason.terms" 319 139)::
(nat_lit 146,kC "is_short_text" 361 362 363 30 1 3 141 181 142 143 144 145 365 366)::
(nat_lit 147,kF "is_short_text" (top 17) "reason.terms" 319 146)::
(nat_lit 151,{ cls:=.type "code",data:=Data.fields #[.str (so "is_name") 368,.str (so "is_name") 369,.str (so "/claim/cut.py") 370,.int 32 0,.int 1 0,.int 0 0,.int 0 0,.int 3 0,.ref 148,.bool true,.int 181 0,.ref 149,.none,.none,.none,.ref 150,.int 371 0,.int 32 0,.str (so "/claim/cut.py") 372] })::
(nat_lit 152,kF "is_name" (top 18) "reason.terms" 319 151)::
(nat_lit 158,kC "is_constant" 374 375 376 36 1 3 153 181 154 155 156 157 378 379)::
(nat_lit 159,kF "is_constant" (top 19) "reason.terms" 319 158)::
(nat_lit 163,{ cls:=.type "code",data:=Data.fields #[.str (so "is_variable") 381,.str (so "is_variable") 382,.str (so "/claim/cut.py") 383,.int 38 0,.int 1 0,.int 0 0,.int 0 0,.int 3 0,.ref 160,.bool true,.int 181 0,.ref 161,.none,.none,.none,.ref 162,.int 384 0,.int 38 0,.str (so "/claim/cut.py") 385] })::
(nat_lit 164,kF "is_variable" (top 20) "reason.terms" 319 163)::
(nat_lit 170,kC "is_term" 387 388 389 42 1 3 165 181 166 167 168 169 391 392)::
(nat_lit 171,kF "is_term" (top 21) "reason.terms" 319 170)::
(nat_lit 175,{ cls:=.type "code",data:=Data.fields #[.str (so "is_fact") 394,.str (so "is_fact") 395,.str (so "/claim/cut.py") 396,.int 44 0,.int 1 0,.int 0 0,.int 0 0,.int 3 0,.ref 172,.bool true,.int 181 0,.ref 173,.none,.none,.none,.ref 174,.int 397 0,.int 44 0,.str (so "/claim/cut.py") 398] })::
(nat_lit 176,kF "is_fact" (top 22) "reason.terms" 319 175)::
(nat_lit 180,{ cls:=.type "code",data:=Data.fields #[.str (so "are_terms") 408,.str (so "are_terms") 409,.str (so "/claim/cut.py") 410,.int 55 0,.int 1 0,.int 0 0,.int 0 0,.int 3 0,.ref 177,.bool true,.int 181 0,.ref 178,.none,.none,.none,.ref 179,.int 411 0,.int 55 0,.str (so "/claim/cut.py") 412] })::
(nat_lit 181,kF "are_terms" (top 27) "reason.rules" 400 180)::
(nat_lit 187,kC "is_literal" 414 415 416 59 1 3 182 181 183 184 185 186 418 419)::
(nat_lit 188,kF "is_literal" (top 28) "reason.rules" 400 187)::
(nat_lit 194,kC "is_grouping" 421 422 423 65 1 3 189 181 190 191 192 193 425 426)::
(nat_lit 195,kF "is_grouping" (top 29) "reason.rules" 400 194)::
(nat_lit 201,kC "are_head_terms" 428 429 430 71 1 3 196 181 197 198 199 200 432 433)::
(nat_lit 202,kF "are_head_terms" (top 30) "reason.rules" 400 201)::
(nat_lit 206,{ cls:=.type "code",data:=Data.fields #[.str (so "is_body") 435,.str (so "is_body") 436,.str (so "/claim/cut.py") 437,.int 77 0,.int 1 0,.int 0 0,.int 0 0,.int 3 0,.ref 203,.bool true,.int 181 0,.ref 204,.none,.none,.none,.ref 205,.int 438 0,.int 77 0,.str (so "/claim/cut.py") 439] })::
(nat_lit 207,kF "is_body" (top 31) "reason.rules" 400 206)::
(nat_lit 213,kC "is_rule" 441 442 443 83 1 3 208 181 209 210 211 212 445 446)::
(nat_lit 214,kF "is_rule" (top 32) "reason.rules" 400 213)::
(nat_lit 220,kC "is_group" 448 449 450 89 1 3 215 181 216 217 218 219 452 453)::
(nat_lit 221,kF "is_group" (top 33) "reason.rules" 400 220)::
(nat_lit 227,kC "has_predicate" 455 456 457 91 1 3 222 181 223 224 225 226 459 460)::
(nat_lit 228,kF "has_predicate" (top 34) "reason.rules" 400 227)::
(nat_lit 232,{ cls:=.type "code",data:=Data.fields #[.str (so "literal_variables") 462,.str (so "literal_variables") 463,.str (so "/claim/cut.py") 464,.int 93 0,.int 1 0,.int 0 0,.int 0 0,.int 3 0,.ref 229,.bool true,.int 181 0,.ref 230,.none,.none,.none,.ref 231,.int 465 0,.int 93 0,.str (so "/claim/cut.py") 466] })::
(nat_lit 233,kF "literal_variables" (top 35) "reason.rules" 400 232)::
(nat_lit 237,{ cls:=.type "code",data:=Data.fields #[.str (so "head_variables") 468,.str (so "head_variables") 469,.str (so "/claim/cut.py") 470,.int 96 0,.int 1 0,.int 0 0,.int 0 0,.int 3 0,.ref 234,.bool true,.int 181 0,.ref 235,.none,.none,.none,.ref 236,.int 471 0,.int 96 0,.str (so "/claim/cut.py") 472] })::
(nat_lit 238,kF "head_variables" (top 36) "reason.rules" 400 237)::
(nat_lit 244,kC "body_variables" 474 475 476 99 1 3 239 181 240 241 242 243 480 481)::
(nat_lit 245,kF "body_variables" (top 37) "reason.rules" 400 244)::
(nat_lit 251,kC "rule_variables" 483 484 485 104 1 3 246 181 247 248 249 250 487 488)::
(nat_lit 252,kF "rule_variables" (top 38) "reason.rules" 400 251)::
(nat_lit 256,{ cls:=.type "code",data:=Data.fields #[.str (so "is_numeral") 494,.str (so "is_numeral") 495,.str (so "/claim/cut.py") 496,.int 108 0,.int 1 0,.int 0 0,.int 0 0,.int 3 0,.ref 253,.bool true,.int 181 0,.ref 254,.none,.none,.none,.ref 255,.int 497 0,.int 108 0,.str (so "/claim/cut.py") 498] })::
(nat_lit 257,kF "is_numeral" (top 41) "reason.texts" 490 256)::
(nat_lit 261,{ cls:=.type "code",data:=Data.fields #[.str (so "read_terms") 500,.str (so "read_terms") 501,.str (so "/claim/cut.py") 502,.int 113 0,.int 1 0,.int 0 0,.int 0 0,.int 3 0,.ref 258,.bool true,.int 181 0,.ref 259,.none,.none,.none,.ref 260,.int 503 0,.int 113 0,.str (so "/claim/cut.py") 504] })::
(nat_lit 262,kF "read_terms" (top 42) "reason.texts" 490 261)::
(nat_lit 268,kC "read_fact" 506 507 508 115 1 3 263 181 264 265 266 267 512 513)::
(nat_lit 269,kF "read_fact" (top 43) "reason.texts" 490 268)::
(nat_lit 275,kC "read_literal" 515 516 517 121 1 3 270 181 271 272 273 274 520 521)::
(nat_lit 276,kF "read_literal" (top 44) "reason.texts" 490 275)::
(nat_lit 282,kC "read_head_terms" 523 524 525 128 1 3 277 181 278 279 280 281 527 528)::
(nat_lit 283,kF "read_head_terms" (top 45) "reason.texts" 490 282)::
(nat_lit 287,{ cls:=.type "code",data:=Data.fields #[.str (so "read_rule") 530,.str (so "read_rule") 531,.str (so "/claim/cut.py") 532,.int 134 0,.int 1 0,.int 0 0,.int 0 0,.int 3 0,.ref 284,.bool true,.int 181 0,.ref 285,.none,.none,.none,.ref 286,.int 533 0,.int 134 0,.str (so "/claim/cut.py") 534] })::
(nat_lit 288,kF "read_rule" (top 46) "reason.texts" 490 287)::
(nat_lit 294,kC "_law_cell" 538 539 540 143 2 3 289 181 290 291 292 293 544 545)::
(nat_lit 295,kF "_law_cell" (top 48) "law_reason_k42_texts_refused" 536 294)::
(nat_lit 301,kC "_law_stream" 547 548 549 150 2 3 296 181 297 298 299 300 555 556)::
(nat_lit 302,kF "_law_stream" (top 49) "law_reason_k42_texts_refused" 536 301)::
(nat_lit 306,{ cls:=.type "code",data:=Data.fields #[.str (so "_law_names") 558,.str (so "_law_names") 559,.str (so "/claim/cut.py") 560,.int 161 0,.int 2 0,.int 0 0,.int 0 0,.int 3 0,.ref 303,.bool true,.int 181 0,.ref 304,.none,.none,.none,.ref 305,.int 561 0,.int 161 0,.str (so "/claim/cut.py") 562] })::
(nat_lit 307,kF "_law_names" (top 50) "law_reason_k42_texts_refused" 536 306)::
(nat_lit 313,kC "_law_refused" 564 565 566 173 2 3 308 181 309 310 311 312 571 572)::
(nat_lit 314,kF "_law_refused" (top 51) "law_reason_k42_texts_refused" 536 313)::
(nat_lit 320,kC "_law_odd_facts" 574 575 576 184 3 3 315 181 316 317 318 319 581 582)::
(nat_lit 321,kF "_law_odd_facts" (top 52) "law_reason_k42_texts_refused" 536 320)::
(nat_lit 327,kC "_law_odd_rules" 584 585 586 190 3 3 322 181 323 324 325 326 591 592)::
(nat_lit 328,kF "_law_odd_rules" (top 53) "law_reason_k42_texts_refused" 536 327)::
(nat_lit 334,kC "_law_spoiled" 594 595 596 202 3 3 329 181 330 331 332 333 603 604)::
(nat_lit 335,kF "_law_spoiled" (top 54) "law_reason_k42_texts_refused" 536 334)::
(nat_lit 341,kC "law" 606 607 608 211 1 3 336 181 337 338 339 340 620 621)::
(nat_lit 342,kF "law" (top 55) "law_reason_k42_texts_refused" 536 341)::[]
noncomputable def kas : List Addr:=[2,3,23,24,25,36,37,48,49,60,61,72,73,84,85,96,97,108,109,112,118,119,125,126,132,133,139,140,146,147,151,152,158,159,163,164,170,171,175,176,180,181,187,188,194,195,201,202,206,207,213,214,220,221,227,228,232,233,237,238,244,245,251,252,256,257,261,262,268,269,275,276,282,283,287,288,294,295,301,302,306,307,313,314,320,321,327,328,334,335,341,342]
end K42
noncomputable def PySem.W.Fast.tw14415033164886222678 : Params->Frag:=K42.KF
theorem PySem.W.Fast.te14415033164886222678 : K42.KF = PySem.W.Fast.tw14415033164886222678:=rfl
noncomputable def K42.H : Hook:=kHook K42.KF K42.kas (fun _=>by kernel_rfl)
noncomputable def L2.q42 : Program:=view PySem.Challenge.pw_reason_k42_texts_refused [55]
noncomputable def L2.l42 : List Str:=(PySem.Challenge.pw_reason_k42_texts_refused.main.scope.names.map (·.1)).filter (· != "law")
noncomputable def L2.x42 (s : Shared) : Bool:=xlAt L2.q42 [] s && recOk (RowW.records (OpenRow.toRowW (OpenLaw.row PySem.Challenge.rw_reason_k42_texts_refused))) s
noncomputable def L2.lh42 (w : World) (os : OsState):=(topFrom treeTable PySem.Challenge.pw_reason_k42_texts_refused w 6000 ⟨boot_heap w.params,Array.mk [],boot_drawn,boot_toks,os⟩).map (fun s=>(openSeen L2.q42 L2.l42 (importedModules PySem.Challenge.pw_reason_k42_texts_refused.main.body) L2.x42 true s,K42.kas.map s.heap.get?))
noncomputable def L2.rh42 (w : World):=some (openGood L2.q42 L2.l42,(K42.KF w.params).map fun p=>some p.2)
lay_quick L2.lh42 L2.rh42
set_option maxHeartbeats 0
theorem L2.lr42 : ∀ w os,L2.lh42 w os = L2.rh42 w:=fun w os=>(congrFun (congrFun PySem.W.Fast.te4371869184764745788 w) os).trans ((by kernel_rfl : PySem.W.Fast.tw4371869184764745788 w os = PySem.W.Fast.tw8580442876361316946 w).trans (congrFun PySem.W.Fast.te8580442876361316946 w).symm)
theorem K42.left : LeftO PySem.Challenge.pw_reason_k42_texts_refused L2.q42 L2.l42 L2.x42 (Hook.obs K42.H) (Hook.val K42.H) 6000:=
 L2.leftO_once (by kernel_rfl) (by decide +kernel) (fun _=>by kernel_rfl) L2.lr42
open PySem PySem.W PyProof.Rows L2
noncomputable def K42.dr : DefRec:=match defOf L2.q42 (Str.ofString "law") with | some x=>x.1 | none=>⟨"law",defArgs (K42.top 55),defBody (K42.top 55),defScope (K42.top 55),⟨0,0,0,0⟩⟩
theorem PySem.Challenge.cw_reason_k42_texts_refused_holds : PySem.Challenge.rw_reason_k42_texts_refused.Holds := by
 w_on; o_law
 refine holds_open (q:=L2.q42) (loose:=L2.l42) (Xt:=L2.x42) (XP:=XL L2.q42 []) (YP:=InK K42.KF) (d:=K42.dr) (kwd:=[]) (N:=6000) K42.left (InK.of fun _=>by kernel_rfl) InK.keeps (fun s e=>xl_of s (Bool.and_eq_true_iff.mp e).1) XL.keeps (by kernel_rfl) (by kernel_rfl) (by kernel_rfl) (fun s e=>recFacts_of (Bool.and_eq_true_iff.mp e).2) (by rfl) (by assumption) (by k_qdec) ⟨rfl,rfl,rfl,rfl,rfl,by decide +kernel⟩ ?hw ?hc
 (case hw=>w_witness2)
 k_fill
 refine K42.walk (l:=PySem.Challenge.rw_reason_k42_texts_refused) rfl (by kernel_rfl) (by kernel_rfl) (fun w h Y=>Y) ?F
 case F=>
  intro w mg h KX G
  refine' K42.Txt.mk (defAt_mk KX G ?a1 ?l1 ?c1 ?k1) (defAt_mk KX G ?a2 ?l2 ?c2 ?k2) (defAt_mk KX G ?a3 ?l3 ?c3 ?k3) (defAt_mk KX G ?a4 ?l4 ?c4 ?k4) (defAt_mk KX G ?a5 ?l5 ?c5 ?k5) (defAt_mk KX G ?a6 ?l6 ?c6 ?k6) (defAt_mk KX G ?a7 ?l7 ?c7 ?k7) (defAt_mk KX G ?a8 ?l8 ?c8 ?k8) (defAt_mk KX G ?a9 ?l9 ?c9 ?k9) (defAt_mk KX G ?a10 ?l10 ?c10 ?k10) (defAt_mk KX G ?a11 ?l11 ?c11 ?k11) (defAt_mk KX G ?a12 ?l12 ?c12 ?k12) (defAt_mk KX G ?a13 ?l13 ?c13 ?k13) (defAt_mk KX G ?a14 ?l14 ?c14 ?k14) (defAt_mk KX G ?a15 ?l15 ?c15 ?k15) (defAt_mk KX G ?a16 ?l16 ?c16 ?k16) (defAt_mk KX G ?a17 ?l17 ?c17 ?k17) (defAt_mk KX G ?a18 ?l18 ?c18 ?k18) (defAt_mk KX G ?a19 ?l19 ?c19 ?k19) (defAt_mk KX G ?a20 ?l20 ?c20 ?k20) (defAt_mk KX G ?a21 ?l21 ?c21 ?k21) (defAt_mk KX G ?a22 ?l22 ?c22 ?k22) (defAt_mk KX G ?a23 ?l23 ?c23 ?k23) (defAt_mk KX G ?a24 ?l24 ?c24 ?k24) (defAt_mk KX G ?a25 ?l25 ?c25 ?k25) (defAt_mk KX G ?a26 ?l26 ?c26 ?k26) (defAt_mk KX G ?a27 ?l27 ?c27 ?k27) (defAt_mk KX G ?a28 ?l28 ?c28 ?k28) (defAt_mk KX G ?a29 ?l29 ?c29 ?k29) (defAt_mk KX G ?a30 ?l30 ?c30 ?k30) (defAt_mk KX G ?a31 ?l31 ?c31 ?k31) (defAt_mk KX G ?a32 ?l32 ?c32 ?k32) (defAt_mk KX G ?a33 ?l33 ?c33 ?k33) (defAt_mk KX G ?a34 ?l34 ?c34 ?k34) (defAt_mk KX G ?a35 ?l35 ?c35 ?k35) (defAt_mk KX G ?a36 ?l36 ?c36 ?k36) (PySem.W.mg_none_of KX G ?z37) (PySem.W.mg_none_of KX G ?z38) (PySem.W.mg_none_of KX G ?z39) (PySem.W.mg_none_of KX G ?z40) (PySem.W.mg_none_of KX G ?z41) (PySem.W.mg_none_of KX G ?z42) (PySem.W.mg_none_of KX G ?z43) (PySem.W.mg_none_of KX G ?z44) (PySem.W.mg_none_of KX G ?z45) (PySem.W.mg_none_of KX G ?z46) (PySem.W.mg_none_of KX G ?z47) (PySem.W.mg_none_of KX G ?z48) (PySem.W.mg_none_of KX G ?z49) tyOk_bool tyOk_int tyOk_str tyOk_tuple (globAt_int KX G ?g50) (globAt_int KX G ?g51) (globAt_int KX G ?g52) (globAt_int KX G ?g53) (globAt_int KX G ?g54) (globAt_int KX G ?g55) (globAt_strs (ws:=["not","if","under","unlike","sum","least","count"]) KX G ?g56 ?h56 ?i56 ?j56)  (raiseC_mk ?y901 (excC_mk ?y902 ?y903 ?y904 ?y905 ?y906 ?y907) ?y908) (catch_cons ?y909 ?y910 (excC_mk ?y911 ?y912 ?y913 ?y914 ?y915 ?y916) ?y917 catch_nil) (isObT_mk (nsAll_cons ?y923 (nsAll_cons ?y922 (nsAll_cons ?y921 (nsAll_cons ?y920 (nsAll_cons ?y919 (nsAll_cons ?y918 nsAll_nil)))))) (by decide) ?y924 ?y925) (isOb1_mk ?y926 ?y927 ?y928) (isObB_mk ?y929 ?y930)
  (case a1=>k_is); (case l1=>k_is); (case c1=>k_is); (case k1=>k_is)
  (case a2=>k_is); (case l2=>k_is); (case c2=>k_is); (case k2=>k_is)
  (case a3=>k_is); (case l3=>k_is); (case c3=>k_is); (case k3=>k_is)
  (case a4=>k_is); (case l4=>k_is); (case c4=>k_is); (case k4=>k_is)
  (case a5=>k_is); (case l5=>k_is); (case c5=>k_is); (case k5=>k_is)
  (case a6=>k_is); (case l6=>k_is); (case c6=>k_is); (case k6=>k_is)
  (case a7=>k_is); (case l7=>k_is); (case c7=>k_is); (case k7=>k_is)
  (case a8=>k_is); (case l8=>k_is); (case c8=>k_is); (case k8=>k_is)
  (case a9=>k_is); (case l9=>k_is); (case c9=>k_is); (case k9=>k_is)
  (case a10=>k_is); (case l10=>k_is); (case c10=>k_is); (case k10=>k_is)
  (case a11=>k_is); (case l11=>k_is); (case c11=>k_is); (case k11=>k_is)
  (case a12=>k_is); (case l12=>k_is); (case c12=>k_is); (case k12=>k_is)
  (case a13=>k_is); (case l13=>k_is); (case c13=>k_is); (case k13=>k_is)
  (case a14=>k_is); (case l14=>k_is); (case c14=>k_is); (case k14=>k_is)
  (case a15=>k_is); (case l15=>k_is); (case c15=>k_is); (case k15=>k_is)
  (case a16=>k_is); (case l16=>k_is); (case c16=>k_is); (case k16=>k_is)
  (case a17=>k_is); (case l17=>k_is); (case c17=>k_is); (case k17=>k_is)
  (case a18=>k_is); (case l18=>k_is); (case c18=>k_is); (case k18=>k_is)
  (case a19=>k_is); (case l19=>k_is); (case c19=>k_is); (case k19=>k_is)
  (case a20=>k_is); (case l20=>k_is); (case c20=>k_is); (case k20=>k_is)
  (case a21=>k_is); (case l21=>k_is); (case c21=>k_is); (case k21=>k_is)
  (case a22=>k_is); (case l22=>k_is); (case c22=>k_is); (case k22=>k_is)
  (case a23=>k_is); (case l23=>k_is); (case c23=>k_is); (case k23=>k_is)
  (case a24=>k_is); (case l24=>k_is); (case c24=>k_is); (case k24=>k_is)
  (case a25=>k_is); (case l25=>k_is); (case c25=>k_is); (case k25=>k_is)
  (case a26=>k_is); (case l26=>k_is); (case c26=>k_is); (case k26=>k_is)
  (case a27=>k_is); (case l27=>k_is); (case c27=>k_is); (case k27=>k_is)
  (case a28=>k_is); (case l28=>k_is); (case c28=>k_is); (case k28=>k_is)
  (case a29=>k_is); (case l29=>k_is); (case c29=>k_is); (case k29=>k_is)
  (case a30=>k_is); (case l30=>k_is); (case c30=>k_is); (case k30=>k_is)
  (case a31=>k_is); (case l31=>k_is); (case c31=>k_is); (case k31=>k_is)
  (case a32=>k_is); (case l32=>k_is); (case c32=>k_is); (case k32=>k_is)
  (case a33=>k_is); (case l33=>k_is); (case c33=>k_is); (case k33=>k_is)
  (case a34=>k_is); (case l34=>k_is); (case c34=>k_is); (case k34=>k_is)
  (case a35=>k_is); (case l35=>k_is); (case c35=>k_is); (case k35=>k_is)
  (case a36=>k_is); (case l36=>k_is); (case c36=>k_is); (case k36=>k_is)
  (case z37=>k_is)
  (case z38=>k_is)
  (case z39=>k_is)
  (case z40=>k_is)
  (case z41=>k_is)
  (case z42=>k_is)
  (case z43=>k_is)
  (case z44=>k_is)
  (case z45=>k_is)
  (case z46=>k_is)
  (case z47=>k_is)
  (case z48=>k_is)
  (case z49=>k_is)
  (case g50=>k_is)
  (case g51=>k_is)
  (case g52=>k_is)
  (case g53=>k_is)
  (case g54=>k_is)
  (case g55=>k_is)
  (case g56=>k_is); (case h56=>k_is); (case i56=>decide); (case j56=>exact .cons ⟨_,rfl⟩ (.cons ⟨_,rfl⟩ (.cons ⟨_,rfl⟩ (.cons ⟨_,rfl⟩ (.cons ⟨_,rfl⟩ (.cons ⟨_,rfl⟩ (.cons ⟨_,rfl⟩ (.nil))))))))
  (case y901=>k_is)
  (case y902=>k_is)
  (case y903=>k_is)
  (case y904=>intro od; rfl)
  (case y905=>k_is)
  (case y906=>k_is)
  (case y907=>rfl)
  (case y908=>first | with_unfolding_all rfl | decide +kernel)
  (case y909=>k_is)
  (case y910=>k_is)
  (case y911=>k_is)
  (case y912=>k_is)
  (case y913=>intro od; rfl)
  (case y914=>k_is)
  (case y915=>k_is)
  (case y916=>rfl)
  (case y917=>rfl)
  (case y918=>k_is)
  (case y919=>k_is)
  (case y920=>k_is)
  (case y921=>k_is)
  (case y922=>k_is)
  (case y923=>k_is)
  (case y924=>k_is)
  (case y925=>rfl)
  (case y926=>k_is)
  (case y927=>k_is)
  (case y928=>rfl)
  (case y929=>k_is)
  (case y930=>rfl)
