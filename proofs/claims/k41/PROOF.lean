import PyProof.Rows.All
import Wide.All
import OpenK.AllK
import Wide.FinOn
import Lean
import PyProof.EqAt
import PyProof.EqKinds
import PyProof.TupleCall
import PyProof.NeKinds
import KE.KEqDict
import KE.KDictLaws
import PyProof.JoinWalk
import PyProof.ZipIter
import PyProof.WalkInts
import PyProof.ListRange
import PyProof.DictWalks
import KE.KSortTup
import PyProof.Rows.IntRules
import PyProof.Rows.StrRules
import PyProof.SetKind
import PyProof.Rows.SetFrom
import PyProof.CollectWalk
import PyProof.FactsAll.set_1
import PyProof.TupleIter
import PyProof.CollectStr
import PyProof.SetRoads
import PyProof.DictKinds
import PyProof.Rows.SortStr
import PyProof.ListMulRoad
import PyProof.FactsAll.subtypes_4
import PyProof.StrCalls
import PyProof.StrBlockH
import PyProof.StrBlockI
import PyProof.StrBlock2
import PyProof.CallStr
import KE.KIntText
import KE.IntTextText
import PyProof.StrLawsIn
import PySem.Challenge.RW_reason_k41_texts
set_option Elab.async false
set_option linter.all false
set_option maxRecDepth 100000
universe u v
theorem obE {α : Type u} {β : Type v} {x : Option α} {f : α → Option β} {b : β} : x.bind f = some b → ∃ a,x = some a ∧ f a = some b:=(Option.bind_eq_some_iff).mp
theorem omE {α : Type u} {β : Type v} {x : Option α} {f : α → β} {b : β} : x.map f = some b → ∃ a,x = some a ∧ f a = b:=(Option.map_eq_some_iff).mp
theorem nlL {n m k : Nat} : n ≤ m → m < k → n < k:=Nat.lt_of_le_of_lt
theorem naL {n m : Nat} : n ≤ m → ∀ k : Nat,k + n ≤ k + m:=Nat.add_le_add_left
namespace L2
open PySem PySem.Spec PyProof.Rows
abbrev Key:=Sum Int Str
def Xa : Key->Value->Bool
 | .inl k,v=>Value.isInt k v
 | .inr x,v=>Value.isStrOf x v
def zdm (w : World) : Key->Int
 | .inl k=>hashInt k
 | .inr x=>hashStr w x
theorem yg : ∀ {k : Key} {v : Value},Xa k v = true->(∃ i t,k = Sum.inl i /\ v = Value.int i t) \/ (∃ x t,k = Sum.inr x /\ v = Value.str x t)
 | .inl i,v,h=>by
  obtain ⟨t,e⟩:=Value.isInt_shape (k:=i) (v:=v) h
  exact .inl ⟨i,t,rfl,e⟩
 | .inr x,v,h=>by
  obtain ⟨t,e⟩:=Value.isStrOf_shape (x:=x) (v:=v) h
  exact .inr ⟨x,t,rfl,e⟩
theorem XV (i : Int) (t : Tok) : Xa (.inl i) (.int i t) = true:=by simp [Xa,Value.isInt]
theorem XW (x : Str) (t : Tok) : Xa (.inr x) (.str x t) = true:=by simp [Xa,Value.isStrOf]
theorem J5 (a b : Int) : decide ((Sum.inl a : Key) = Sum.inl b) = (a == b):=by
 by_cases e : a = b
 ·subst e; simp
 ·have h : ¬ (Sum.inl a : Key) = Sum.inl b:=fun q=>e (Sum.inl.inj q)
  rw [decide_eq_false h]
  exact (beq_eq_false_iff_ne.mpr e).symm
theorem J6 (a b : Str) : decide ((Sum.inr a : Key) = Sum.inr b) = decide (a = b):=by
 by_cases e : a = b
 ·subst e; simp
 ·have h : ¬ (Sum.inr a : Key) = Sum.inr b:=fun q=>e (Sum.inr.inj q)
  rw [decide_eq_false h,decide_eq_false e]
theorem J7 (a : Int) (b : Str) : decide ((Sum.inl a : Key) = Sum.inr b) = false:=decide_eq_false (fun q=>nomatch q)
theorem J8 (a : Str) (b : Int) : decide ((Sum.inr a : Key) = Sum.inl b) = false:=decide_eq_false (fun q=>nomatch q)
def yV (prog : Program) (w : World) : PySem.KeyKind prog w Key where
 is:=Xa
 hash:=zdm w
 inj:=fun v a b ha hb=>by
  rcases yg ha with ⟨i,t,rfl,rfl⟩ | ⟨x,t,rfl,rfl⟩
  ·rcases yg hb with ⟨j,u,rfl,e⟩ | ⟨y,u,rfl,e⟩
   ·injection e with e1 _; rw [e1]
   ·exact nomatch e
  ·rcases yg hb with ⟨j,u,rfl,e⟩ | ⟨y,u,rfl,e⟩
   ·exact nomatch e
   ·injection e with e1 _; rw [e1]
 byValue:=fun k v h=>by
  rcases yg h with ⟨i,t,rfl,rfl⟩ | ⟨x,t,rfl,rfl⟩ <;> rfl
 pyHash:=fun hv h=>by
  rcases yg hv with ⟨i,t,rfl,rfl⟩ | ⟨x,t,rfl,rfl⟩
  ·exact wpAny_pyHash_int h
  ·exact wpAny_pyHash_str h
 eqBool:=fun hu hv h=>by
  rcases yg hu with ⟨i,t,rfl,rfl⟩ | ⟨x,t,rfl,rfl⟩
  ·rcases yg hv with ⟨j,u,rfl,rfl⟩ | ⟨y,u,rfl,rfl⟩
   ·rw [J5] at h; exact wpAny_eqBool_int h
   ·rw [J7] at h; exact SeqAt.EqAt.int_str i t y u _ _ _ _ h
  ·rcases yg hv with ⟨j,u,rfl,rfl⟩ | ⟨y,u,rfl,rfl⟩
   ·rw [J8] at h; exact SeqAt.EqAt.str_int x t j u _ _ _ _ h
   ·rw [J6] at h; exact wpAny_eqBool_str h
 «strs»:=fun k x t v h=>by
  rcases yg h with ⟨i,u,rfl,e⟩ | ⟨y,u,rfl,e⟩
  ·exact nomatch e
  ·injection e with e1 _
   subst e1
   cases v <;> rfl
theorem Zu (prog : Program) (w : World) (i : Int) (t : Tok) : (yV prog w).is (.inl i) (.int i t) = true:=XV i t
theorem Zv (prog : Program) (w : World) (x : Str) (t : Tok) : (yV prog w).is (.inr x) (.str x t) = true:=XW x t
inductive V where
 | non | bl (b : Bool) | int (i : Int) | str (x : Str) | byt (b : Array UInt8) | flt (b : UInt64) | ref (a : Addr) | ty (n : String)
 deriving DecidableEq
def yp : V->Value->Prop
 | .non,u=>u = Value.none
 | .bl b,u=>u = Value.bool b
 | .int i,u=>∃ t,u = Value.int i t
 | .str x,u=>∃ t,u = Value.str x t
 | .byt b,u=>∃ t,u = Value.bytes b t
 | .flt b,u=>∃ t,u = Value.float b t
 | .ref a,u=>u = Value.ref a
 | .ty n,u=>u = Value.type n
abbrev yn : List V->List Value->Prop:=Paired yp
theorem yn.length {xs : List V} {us : List Value} (r : yn xs us) : xs.length = us.length:=Paired.length r
theorem yn.get : ∀ {xs : List V} {us : List Value} {i : Nat} {x : V},yn xs us->xs[i]? = some x->∃ u,us[i]? = some u /\ yp x u
 | _,_,_,_,.nil,e=>by simp at e
 | _,_,0,_,.cons r _,e=>by simp at e; subst e; exact ⟨_,rfl,r⟩
 | _,_,i + 1,x,.cons _ t,e=>by
  obtain ⟨u,h1,h2⟩:=yn.get (i:=i) (x:=x) t (by simpa using e)
  exact ⟨u,by simpa using h1,h2⟩
theorem yn.set {x : V} {u : Value} (r : yp x u) : ∀ {xs : List V} {us : List Value} (i : Nat),yn xs us->yn (xs.set i x) (us.set i u)
 | _,_,_,.nil=>.nil
 | _,_,0,.cons _ t=>.cons r t
 | _,_,i + 1,.cons q t=>.cons q (yn.set r i t)
theorem yn.append : ∀ {xs ys : List V} {us ws : List Value},yn xs us->yn ys ws->yn (xs++ys) (us++ws)
 | _,_,_,_,.nil,s=>s
 | _,_,_,_,.cons r t,s=>.cons r (yn.append t s)
theorem yn.take : ∀ {xs : List V} {us : List Value} (n : Nat),yn xs us->yn (xs.take n) (us.take n)
 | _,_,0,_=>.nil
 | _,_,_ + 1,.nil=>.nil
 | _,_,n + 1,.cons r t=>.cons r (yn.take n t)
theorem yn.drop : ∀ {xs : List V} {us : List Value} (n : Nat),yn xs us->yn (xs.drop n) (us.drop n)
 | _,_,0,r=>r
 | _,_,_ + 1,.nil=>.nil
 | _,_,n + 1,.cons _ t=>yn.drop n t
def Xb : Option V->Option Value->Prop
 | some v,some u=>yp v u
 | none,none=>True
 | _,_=>False
def KV {κ : Type} : List (κ × V)->List (κ × Value)->Prop:=Paired fun (p : κ × V) (q : κ × Value)=>p.1 = q.1 /\ yp p.2 q.2
def kV : Key->V
 | .inl i=>.int i
 | .inr x=>.str x
inductive HO where
 /-- a list -/
 | lst (xs : List V)
 /-- a tuple (never changes) -/
 | tup (xs : List V)
 /-- a dict whose keys are ints and texts; one whose keys are tuples of ints and texts (the empty one is both) -/
 | dK (kvs : List (Key × V)) | dT (kvs : List (List Key × V))
 /-- a set of ints: its members,its size -/
 | set (S : Int->Bool) (n : Nat)
 /-- an instance of the class at C,its dict at dx,its attributes -/
 | ins (C dx : Addr) (fs : List (Str × V))
 /-- the dict of the instance at x -/
 | own (x : Addr)
 /-- the dict of an exception -/
 | xd (fs : List (Str × V))
 /-- a bound method,f of x -/
 | met (f x : Addr)
 /-- a range object lo,lo + 1,.. below hi -/
 | rng (lo hi : Int)
 /-- a thing that is known to the object (the script; a dict while a loop walks it): read,never written while it is so -/
 | frz (o : Obj) (u : HO)
 /-- a code object's table -/
 | tbl (ps : Array Value)
 /-- any other thing,by what is true of its one object (a def of one's own: SetO a S n:=HO.ext fun h=>..) -/
 | ext (φ : Heap->Prop)
abbrev Hp:=Addr->Option HO
def upd (H : Hp) (a : Addr) (o : HO) : Hp:=fun b=>if b = a then some o else H b
theorem yh {H : Hp} {a : Addr} {o : HO} : upd H a o a = some o:=by unfold upd; rw [if_pos rfl]
theorem zR {H : Hp} {a b : Addr} {o : HO} (h : b ≠ a) : upd H a o b = H b:=by unfold upd; rw [if_neg h]
theorem zY {H : Hp} {a b : Addr} {o : HO} (h : H a = some o) (h' : H b = none) : a ≠ b:=by
 intro e; subst e; rw [h] at h'; cases h'
section
variable (P : Program) (w : World)
def yR (H : Hp) (h : Heap) (a : Addr) : HO->Prop
 | .lst xs=>xs.length <= sizeLine /\ ∃ (its : List Value) (n : Nat),yn xs its /\ h.get? a = some { cls:=.type "list",data:=.seq its.toArray n }
 | .tup xs=>xs.length <= sizeLine /\ ∃ its : List Value,yn xs its /\ IsTup h a its.toArray
 | .dK kvs=>kvs.length <= sizeLine /\ (a == sysModules) = false /\ ∃ vs,KV kvs vs /\ h.DictOf (yV P w) a vs
 | .dT kvs=>kvs.length <= sizeLine /\ (a == sysModules) = false /\ ∃ xs : List (List Key × Addr × Value),
   Paired (fun (p : List Key × V) (q : List Key × Addr × Value)=>p.1 = q.1 /\ H q.2.1 = some (.tup (p.1.map kV)) /\ yp p.2 q.2.2) kvs xs /\
   ∃ o es ep,h.get? a = some o /\ o.ExactDict /\ o.data = .dict es ep /\ es.toList = xs.map (entryOfKey (tupleKind (yV P w))) /\ (xs.map (·.1)).Nodup
 | .set S n=>h.SetOf (intKind P w) a S n
 | .ins C dx fs=>H dx = some (.own a) /\ fs.length <= 1000 /\ dx ≠ a /\ h.get? a = some (PySem.W.instObj C dx) /\
   ∃ mA,h.Ns1 dx mA /\ (∀ f,Xb (fs.lookup f) (mA f)) /\ PySem.Within mA (fs.map (·.1))
 | .own _=>∃ o,h.get? a = some o
 | .xd fs=>∃ mA,h.Ns1 a mA /\ ∀ f,Xb (fs.lookup f) (mA f)
 | .rng lo hi=>∃ t u v,h.get? a = some { cls:=.type "range",data:=.fields #[.int lo t,.int hi u,.int 1 v] }
 | .frz o u=>h.get? a = some o /\ yR H h a u
 | .tbl ps=>h.get? a = some { cls:=.none,data:=.fields ps }
 | .met f x=>h.get? a = some (PySem.W.methodObj (.ref f) (.ref x))
 | .ext φ=>φ h /\ (∃ o,h.get? a = some o) /\ ∀ h1 h2 : Heap,φ h1->(∀ o,h1.get? a = some o->h2.get? a = some o)->φ h2
def HOk (H : Hp) (h : Heap) : Prop:=∀ a o,H a = some o->yR P w H h a o
end
section
variable {P : Program} {w : World} {H H' : Hp} {h h' : Heap} {a : Addr} {o : HO}
theorem yR.lt (x : yR P w H h a o) : a < h.objs.size:=by
 cases o with
 | lst xs=>obtain ⟨_,_,_,_,e⟩:=x; exact Heap.lt_size e
 | tup xs=>obtain ⟨_,_,_,p⟩:=x; exact p.lt
 | dK kvs=>obtain ⟨_,_,_,_,o,_,_,e,_⟩:=x; exact Heap.lt_size e
 | dT kvs=>obtain ⟨_,_,_,_,o,_,_,e,_⟩:=x; exact Heap.lt_size e
 | set S n=>obtain ⟨o,_,_,_,e,_⟩:=x; exact Heap.lt_size e
 | ins C dx fs=>obtain ⟨_,_,_,e,_⟩:=x; exact Heap.lt_size e
 | own y=>obtain ⟨_,e⟩:=x; exact Heap.lt_size e
 | xd fs=>obtain ⟨_,⟨_,_,_,e,_⟩,_⟩:=x; exact Heap.lt_size e
 | rng lo hi=>obtain ⟨_,_,_,e⟩:=x; exact Heap.lt_size e
 | frz ob u=>obtain ⟨e,_⟩:=x; exact Heap.lt_size e
 | tbl ps=>exact Heap.lt_size (show h.get? a = some _ from x)
 | met f y=>exact Heap.lt_size (show h.get? a = some _ from x)
 | ext φ=>obtain ⟨_,⟨_,e⟩,_⟩:=x; exact Heap.lt_size e
theorem Paired.mapP {α β : Type} {F G : α->β->Prop} : ∀ {l₁ : List α} {l₂ : List β},Paired F l₁ l₂->(∀ a b,F a b->G a b)->Paired G l₁ l₂
 | _,_,.nil,_=>.nil
 | _,_,.cons r t,f=>.cons (f _ _ r) (Paired.mapP t f)
theorem yR.stay (x : yR P w H h a o) (k : ∀ b u,(b = a \/ H b = some (.own a))->h.get? b = some u->h'.get? b = some u)
  (ho : ∀ b,H b = some (.own a)->H' b = some (.own a)) (ht : ∀ b xs,H b = some (.tup xs)->H' b = some (.tup xs)) : yR P w H' h' a o:=by
 induction o with
 | lst xs=>obtain ⟨z,its,n,r,e⟩:=x; exact ⟨z,its,n,r,k _ _ (.inl rfl) e⟩
 | tup xs=>obtain ⟨z,its,r,ob,e,c⟩:=x; exact ⟨z,its,r,ob,k _ _ (.inl rfl) e,c⟩
 | dK kvs=>obtain ⟨z,y,vs,r,ob,es,ep,e,c⟩:=x; exact ⟨z,y,vs,r,ob,es,ep,k _ _ (.inl rfl) e,c⟩
 | dT kvs=>
  obtain ⟨z,y,xs,r,ob,es,ep,e,c⟩:=x
  exact ⟨z,y,xs,Paired.mapP r fun p q z=>⟨z.1,ht _ _ z.2.1,z.2.2⟩,ob,es,ep,k _ _ (.inl rfl) e,c⟩
 | set S n=>obtain ⟨ob,es,ep,t,e,c⟩:=x; exact ⟨ob,es,ep,t,k _ _ (.inl rfl) e,c⟩
 | ins C dx fs=>
  obtain ⟨d,z,ne,e,mA,⟨od,es,ep,e2,c⟩,r⟩:=x
  exact ⟨ho _ d,z,ne,k _ _ (.inl rfl) e,mA,⟨od,es,ep,k _ _ (.inr d) e2,c⟩,r⟩
 | own y=>obtain ⟨ob,e⟩:=x; exact ⟨ob,k _ _ (.inl rfl) e⟩
 | xd fs=>obtain ⟨mA,⟨od,es,ep,e,c⟩,r⟩:=x; exact ⟨mA,⟨od,es,ep,k _ _ (.inl rfl) e,c⟩,r⟩
 | rng lo hi=>obtain ⟨t,u,v,e⟩:=x; exact ⟨t,u,v,k _ _ (.inl rfl) e⟩
 | frz ob u ih=>obtain ⟨e,q⟩:=x; exact ⟨k _ _ (.inl rfl) e,ih q⟩
 | tbl ps=>
  have e : h.get? a = some { cls:=.none,data:=.fields ps }:=x
  show h'.get? a = some { cls:=.none,data:=.fields ps }
  exact k a _ (.inl rfl) e
 | met f y=>
  have e : h.get? a = some (PySem.W.methodObj (.ref f) (.ref y)):=x
  show h'.get? a = some (PySem.W.methodObj (.ref f) (.ref y))
  exact k a _ (.inl rfl) e
 | ext φ=>obtain ⟨p,⟨o,e⟩,st⟩:=x; exact ⟨st _ _ p fun o q=>k _ _ (.inl rfl) q,⟨o,k _ _ (.inl rfl) e⟩,st⟩
theorem HOk.lt (x : HOk P w H h) (e : H a = some o) : a < h.objs.size:=(x a o e).lt
theorem HOk.fresh (x : HOk P w H h) (e : h.objs.size <= a) : H a = none:=by
 cases q : H a with
 | none=>rfl
 | some u=>exact absurd (Nat.lt_of_lt_of_le (x.lt q) e) (Nat.lt_irrefl _)
theorem HOk.kept (x : HOk P w H h) (k : ∀ b u,h.get? b = some u->h'.get? b = some u) : HOk P w H h':=fun a o e=>
 (x a o e).stay (fun b u _ q=>k b u q) (fun _ q=>q) fun _ _ q=>q
theorem HOk.laid (x : HOk P w H h) (k : ∀ b u,h.get? b = some u->h'.get? b = some u) (hp : h.objs.size <= a) (new : yR P w (upd H a o) h' a o) : HOk P w (upd H a o) h':=fun b u e=>by
 have hn:=x.fresh hp
 by_cases hb : b = a
 ·subst hb; rw [yh] at e; cases e; exact new
 ·rw [zR hb] at e
  exact (x b u e).stay (fun c v _ q=>k c v q) (fun c q=>by rw [zR (zY q hn)]; exact q) fun c xs q=>by rw [zR (zY q hn)]; exact q
end
def Rd (H : Hp) (a : Addr) (u : HO) : Prop:=H a = some u \/ ∃ o,H a = some (.frz o u)
theorem Rd.ok {P : Program} {w : World} {H : Hp} {h : Heap} {a : Addr} {u : HO} (r : Rd H a u) (x : HOk P w H h) : yR P w H h a u:=by
 rcases r with r | ⟨o,r⟩
 ·exact x a u r
 ·obtain ⟨_,q⟩:=x a _ r
  exact q
def Mut : Option HO->Prop
 | some (.lst _)=>True
 | some (.dK _)=>True
 | some (.dT _)=>True
 | some (.set _ _)=>True
 | some (.ins _ _ _)=>True
 | some (.ext _)=>True
 | _=>False
section
variable {P : Program} {w : World} {H : Hp} {h h' : Heap} {x e : Addr} {o' : HO}
theorem HOk.write (ok : HOk P w H h) (mu : Mut (H x)) (he : e = x \/ H e = some (.own x)) (k : ∀ b u,b ≠ e->h.get? b = some u->h'.get? b = some u) (heo : ∃ u,h'.get? e = some u)
  (new : yR P w (upd H x o') h' x o') : HOk P w (upd H x o') h':=fun b u q=>by
 have nown : ∀ c y,H c = some (.own y)->c ≠ x:=fun c y r z=>by subst z; rw [r] at mu; exact mu
 have ntup : ∀ c xs,H c = some (.tup xs)->c ≠ x:=fun c xs r z=>by subst z; rw [r] at mu; exact mu
 by_cases hb : b = x
 ·subst hb; rw [yh] at q; cases q; exact new
 ·rw [zR hb] at q
  by_cases hbe : b = e
  ·have q' : H b = some (.own x):=by
    rcases he with z | z
    ·exact absurd (hbe.trans z) hb
    ·rw [hbe]; exact z
   rw [q] at q'; cases q'
   obtain ⟨v,hv⟩:=heo
   exact ⟨v,by rw [hbe]; exact hv⟩
  ·refine (ok b u q).stay (fun c v hc r=>k c v ?_ r) (fun c r=>by rw [zR (nown c b r)]; exact r) fun c xs r=>by rw [zR (ntup c xs r)]; exact r
   rcases hc with rfl | hc
   ·exact hbe
   ·rintro rfl
    rcases he with z | z
    ·exact nown c b hc z
    ·rw [hc] at z; cases z; exact hb rfl
end
structure Un (fs ex : List Addr) (H H' : Hp) (h h' : Heap) : Prop where
 keep : ∀ b o,h.get? b = some o->H b = none->b ∉ fs->b ∉ ex->h'.get? b = some o
 slot : ∀ b o,h.get? b = some o->H b = none->b ∈ fs->b ∉ ex->∃ sl,h'.get? b = some { o with slots:=sl }
 free : ∀ b o,h.get? b = some o->H b = none->b ∉ ex->H' b = none
 there : ∀ b o,h.get? b = some o->b ∉ ex->∃ o',h'.get? b = some o'
 tups : ∀ b xs,H b = some (.tup xs)->H' b = some (.tup xs)
 frzs : ∀ b o u,H b = some (.frz o u)->H' b = some (.frz o u)
 tbls : ∀ b ps,H b = some (.tbl ps)->∃ more,H' b = some (.tbl (ps++more))
section
variable {fs fs' ex ex' : List Addr} {H H1 H2 : Hp} {h h1 h2 h' : Heap} {a x e : Addr} {o : HO}
theorem Un.any (u : Un fs ex H H1 h h1) {b : Addr} {ob : Obj} (q : h.get? b = some ob) (n : H b = none) (hx : b ∉ ex) : ∃ sl,h1.get? b = some { ob with slots:=sl }:=by
 by_cases hb : b ∈ fs
 ·exact u.slot b ob q n hb hx
 ·exact ⟨ob.slots,u.keep b ob q n hb hx⟩
theorem Un.kept (k : ∀ b u,h.get? b = some u->h'.get? b = some u) : Un fs ex H H h h':=
 ⟨fun b ob q _ _ _=>k b ob q,fun b ob q _ _ _=>⟨ob.slots,k b ob q⟩,fun _ _ _ n _=>n,fun b ob q _=>⟨ob,k b ob q⟩,fun _ _ q=>q,fun _ _ _ q=>q,fun _ ps q=>⟨#[],by rw [q]; simp⟩⟩
theorem Un.refl : Un fs ex H H h h:=Un.kept fun _ _ q=>q
theorem Un.laid (k : ∀ b u,h.get? b = some u->h'.get? b = some u) (hp : h.objs.size <= a) (hn : H a = none) : Un fs ex H (upd H a o) h h' where
 keep:=fun b u q _ _ _=>k b u q
 slot:=fun b u q _ _ _=>⟨u.slots,k b u q⟩
 free:=fun b u q n _=>by rw [zR (Nat.ne_of_lt (Nat.lt_of_lt_of_le (Heap.lt_size q) hp))]; exact n
 there:=fun b u q _=>⟨u,k b u q⟩
 tups:=fun b xs q=>by rw [zR (zY q hn)]; exact q
 frzs:=fun b u xs q=>by rw [zR (zY q hn)]; exact q
 tbls:=fun b ps q=>⟨#[],by rw [zR (zY q hn),q]; simp⟩
theorem Un.write (mu : Mut (H x)) (he : e = x \/ H e = some (.own x)) (k : ∀ b u,b ≠ e->h.get? b = some u->h'.get? b = some u) (heo : ∃ u,h'.get? e = some u) : Un fs ex H (upd H x o) h h':=by
 have hx : ∀ b,H b = none->b ≠ x:=fun b n z=>by subst z; rw [n] at mu; exact mu
 have hb : ∀ b,H b = none->b ≠ e:=fun b n z=>by
  subst z
  rcases he with r | r
  ·exact hx b n r
  ·rw [n] at r; cases r
 have hm : ∀ b u,H b = some u->¬ Mut (some u)->b ≠ x:=fun b u q nm z=>by subst z; rw [q] at mu; exact nm mu
 refine ⟨fun b u q n _ _=>k b u (hb b n) q,fun b u q n _ _=>⟨u.slots,k b u (hb b n) q⟩,fun b u q n _=>by rw [zR (hx b n)]; exact n,fun b u q _=>?_,
  fun b xs q=>by rw [zR (hm b _ q fun z=>z)]; exact q,fun b u xs q=>by rw [zR (hm b _ q fun z=>z)]; exact q,fun b ps q=>⟨#[],by rw [zR (hm b _ q fun z=>z),q]; simp⟩⟩
 by_cases hbe : b = e
 ·subst hbe; exact heo
 ·exact ⟨u,k b u hbe q⟩
end
def trk (h : Heap) (H : Hp) : List Addr:=(List.range h.objs.size).filter fun a=>(H a).isSome
def Uf (h : Heap) (H : Hp) : Heap:=PySem.W.hideAll h (trk h H)
theorem XX (h : Heap) (H : Hp) : (Uf h H).objs.size = h.objs.size:=PySem.W.hideAll_size _ _
theorem Ug {h : Heap} {H : Hp} {b : Addr} {o : Obj} (e : h.get? b = some o) (n : H b = none) : (Uf h H).get? b = some o:=
 PySem.W.hideAll_get _ e fun hm=>by
  have q : (H b).isSome = true:=(List.mem_filter.mp hm).2
  rw [n] at q; simp at q
theorem Qn {h : Heap} {H : Hp} {b : Addr} {o : Obj} (e : (Uf h H).get? b = some o) : h.get? b = some o /\ H b = none:=by
 have e' : h.get? b = some o:=PySem.W.of_hideAll (trk h H) e
 refine ⟨e',?_⟩
 cases q : H b with
 | none=>rfl
 | some x=>
  have hm : b ∈ trk h H:=List.mem_filter.mpr ⟨List.mem_range.mpr (Heap.lt_size e'),by simp [q]⟩
  have z : (Uf h H).get? b = none:=PySem.W.hideAll_none (trk h H) hm
  rw [z] at e; cases e
def Qo (g h : Heap) (L : Addr) : List (Addr × Obj):=(List.range h.objs.size).filterMap fun a=>if a = L \/ (g.get? a).isSome = true then none else (h.get? a).map fun o=>(a,o)
def rest (g h : Heap) (L d : Addr) : List (Addr × Obj):=(Qo g h L).filter fun p=>decide (p.1 ≠ d)
structure Mod (K : PySem.W.Frag) (mg : Str->Option Value) (base : Heap) : Prop where
 kin : K.In base
 glob : base.Ns mainGlobals mg
 blt : ∃ mb,base.Ns builtinsNs mb /\ ∀ x : Str,x ≠ "__name__"->mb x = bootBuiltins x
 nolimit : base.NoLimit
structure Cx where
 prog : Program
 w : World
 K : PySem.W.Frag
 mg : Str->Option Value
 base : Heap
 A : Around
 N : List Str
 s₀ : Shared
 H₀ : Hp
 env : Env
 outer : List Env
 stack : List Env
 ex : List Addr
 fn : Str->Bool
 calm : Bool
 pn : List (Addr × Obj)
 xe : Value->Shared->Prop
def frs (l : List Env) : List Addr:=l.filterMap (·.frame)
abbrev Cx.fs (X : Cx) : List Addr:=frs X.outer
def Vis (sc : Scope) (x : Str) : Prop:=sc.names.lookup x = some .local \/ sc.names.lookup x = some .cell \/ sc.names.lookup x = some .free
def Loc (sc : Scope) (x : Str) : Prop:=sc.names.lookup x = some .local \/ sc.names.lookup x = some .cell
def zdn (env : Env) (h : Heap) (m : Str->Option Value) (x : Str) (u : Value) : Prop:=
 (env.kindOf x = some .local /\ m x = some u) \/ ((env.kindOf x = some .cell \/ env.kindOf x = some .free) /\ ∃ c,env.cells.lookup x = some c /\ h.IsCell c (some u))
structure Cx.Ok (X : Cx) : Prop where
 mod : Mod X.K X.mg X.base
 kind : X.env.scope.kind = .function
 glob : X.env.globals = mainGlobals
 blt : X.env.builtins = builtinsNs
 above : X.s₀.heap.objs.size <= X.env.locals
 inj : ∀ x y c,X.env.cells.lookup x = some c->X.env.cells.lookup y = some c->x = y
 has : ∀ x,(X.env.kindOf x = some .cell \/ X.env.kindOf x = some .free)->∃ c,X.env.cells.lookup x = some c
 cab : ∀ x c,X.fn x = true->X.env.cells.lookup x = some c->X.s₀.heap.objs.size <= c
 hd : X.calm = true->X.A.handled = none
 frames : X.A.frames = some X.stack
 stk : X.stack = X.outer \/ (X.stack = X.env::X.outer /\ X.env.frame = some X.env.locals)
 exf : ∀ b ∈ X.ex,b ≠ X.env.locals /\ ∀ x c,X.env.cells.lookup x = some c->c ≠ b
 bs : ∀ b o,X.base.get? b = some o->X.s₀.heap.get? b = some o /\ X.H₀ b = none
 bsz : X.base.objs.size <= X.s₀.heap.objs.size
 noex : ∀ b o,X.base.get? b = some o->b ∉ X.ex
 exfs : ∀ b ∈ X.ex,b ∉ X.fs
 funs : X.s₀.heap.FunFrames X.base X.outer
 frf : ∀ b ∈ X.fs,X.H₀ b = none
structure Inv (X : Cx) (pins : List (Addr × Obj)) (σ : List (Option V)) (H : Hp) (s : Shared) : Prop where
 ok : X.Ok
 os : s.os = X.s₀.os
 bare : AllBare s.gens
 base : Un X.fs X.ex X.H₀ H X.s₀.heap s.heap
 loc : ∃ m,s.heap.Ns X.env.locals m /\ ∀ (i : Nat) (x : Str) (v : V),X.N[i]? = some x->σ[i]? = some (some v)->Vis X.env.scope x->∃ u,yp v u /\ zdn X.env s.heap m x u
 cell : ∀ x c,X.env.cells.lookup x = some c->∃ v,s.heap.IsCell c v
 free : H X.env.locals = none
 freeC : ∀ x c,X.env.cells.lookup x = some c->H c = none
 pin : ∀ p ∈ X.pn++pins,s.heap.get? p.1 = some p.2 /\ H p.1 = none /\ p.1 ≠ X.env.locals /\ p.1 ∉ X.fs /\ ∀ v,p.2.data ≠ .cell v
 hok : HOk X.prog X.w H s.heap
 len : σ.length = X.N.length
section
variable {X : Cx} {pins : List (Addr × Obj)} {σ : List (Option V)} {H H' : Hp} {s : Shared} {h' : Heap}
theorem Cx.Ok.nofr (ok : X.Ok) {b : Addr} {o : Obj} (e : X.base.get? b = some o) : b ∉ X.fs:=fun hb=>by
 have:=(ok.funs.mem hb).1
 rw [e] at this; cases this
theorem Inv.bs (I : Inv X pins σ H s) : ∀ b o,X.base.get? b = some o->s.heap.get? b = some o /\ H b = none:=fun b o e=>
 ⟨I.base.keep b o (I.ok.bs b o e).1 (I.ok.bs b o e).2 (I.ok.nofr e) (I.ok.noex b o e),I.base.free b o (I.ok.bs b o e).1 (I.ok.bs b o e).2 (I.ok.noex b o e)⟩
theorem Inv.bk (I : Inv X pins σ H s) : ∀ b o,X.base.get? b = some o->s.heap.get? b = some o:=fun b o e=>(I.bs b o e).1
theorem Inv.mod (I : Inv X pins σ H s) : Mod X.K X.mg X.base:=I.ok.mod
theorem Inv.kIn (I : Inv X pins σ H s) : X.K.In s.heap:=I.ok.mod.kin.keeps I.bk
theorem Inv.fr (I : Inv X pins σ H s) : ∃ m,Fr X.base X.env.locals s.heap m:=
 let ⟨m,hn,_⟩:=I.loc
 ⟨m,hn,I.bk,Nat.le_trans I.ok.bsz I.ok.above⟩
theorem Inv.lt (I : Inv X pins σ H s) : X.env.locals < s.heap.objs.size:=let ⟨_,hn,_⟩:=I.loc; hn.lt
theorem Inv.sz (I : Inv X pins σ H s) : X.s₀.heap.objs.size <= s.heap.objs.size:=Nat.le_trans I.ok.above (Nat.le_of_lt I.lt)
theorem Inv.nofs (I : Inv X pins σ H s) {a : Addr} (h : s.heap.objs.size <= a) : a ∉ X.fs:=fun hb=>by
 obtain ⟨_,o,ho,_⟩:=I.ok.funs.mem hb
 exact absurd (Nat.lt_of_lt_of_le (Heap.lt_size ho) (Nat.le_trans I.sz h)) (Nat.lt_irrefl _)
theorem Inv.cne (I : Inv X pins σ H s) : ∀ x c,X.env.cells.lookup x = some c->c ≠ X.env.locals:=fun x c e z=>by
 obtain ⟨v,o,ho,hd⟩:=I.cell x c e
 obtain ⟨m,⟨o',es,ep,ho',hd',_⟩,_⟩:=I.loc
 rw [z,ho'] at ho; cases ho; rw [hd'] at hd; cases hd
theorem Inv.funs (I : Inv X pins σ H s) : s.heap.FunFrames X.base X.outer:=by
 have all : ∀ (l : List Env),(∀ b ∈ frs l,b ∈ X.fs)->X.s₀.heap.FunFrames X.base l->s.heap.FunFrames X.base l:=by
  intro l
  induction l with
  | nil=>intro _ _; trivial
  | cons env r ih=>
   intro hs hl
   obtain ⟨hk,⟨L,o,hf,hn,ho,hd⟩,hr⟩:=hl
   have hL : L ∈ X.fs:=hs L (by unfold frs; rw [List.filterMap_cons,hf]; exact List.mem_cons_self)
   obtain ⟨sl,e⟩:=I.base.slot L o ho (I.ok.frf L hL) hL fun z=>I.ok.exfs L z hL
   exact ⟨hk,⟨L,_,hf,hn,e,hd⟩,ih (fun b hb=>hs b (by unfold frs; rw [List.filterMap_cons,hf]; exact List.mem_cons_of_mem _ hb)) hr⟩
 exact all X.outer (fun _ hb=>hb) I.ok.funs
theorem Inv.stack (I : Inv X pins σ H s) : s.heap.FunFrames X.base X.stack:=by
 rcases I.ok.stk with e | ⟨e,hf⟩
 ·rw [e]; exact I.funs
 ·rw [e]
  obtain ⟨m,hn,_⟩:=I.loc
  refine .cons (by rw [I.ok.kind]; decide) hf hn ?_ I.funs
  exact Heap.get?_none_of_le (Nat.le_trans I.ok.bsz I.ok.above)
theorem Inv.stkSub (I : Inv X pins σ H s) : ∀ b ∈ frs X.stack,b ∈ X.env.locals::X.fs:=fun b hb=>by
 rcases I.ok.stk with e | ⟨e,hf⟩
 ·rw [e] at hb; exact List.mem_cons_of_mem _ hb
 ·rw [e] at hb
  unfold frs at hb
  rw [List.filterMap_cons,hf] at hb
  exact hb
theorem Inv.stkFree (I : Inv X pins σ H s) : ∀ b ∈ frs X.stack,H b = none:=fun b hb=>by
 rcases List.mem_cons.mp (I.stkSub b hb) with e | hb
 ·rw [e]; exact I.free
 ·obtain ⟨_,o,ho,_⟩:=I.ok.funs.mem hb
  exact I.base.free b o ho (I.ok.frf b hb) fun z=>I.ok.exfs b z hb
theorem Inv.step {g' : Array GenState} {t' : Nat} {d' : Drawn} {ch : List Addr} (I : Inv X pins σ H s)
  (hch : ∀ b ∈ ch,(b ∈ X.ex \/ X.s₀.heap.objs.size <= b) /\ b ≠ X.env.locals /\ (∀ x c,X.env.cells.lookup x = some c->c ≠ b) /\ ∀ p ∈ X.pn++pins,p.1 ≠ b)
  (keep : ∀ b o,b ≠ X.env.locals->b ∉ X.fs->b ∉ ch->s.heap.get? b = some o->H b = none->h'.get? b = some o)
  (slot : ∀ b o,b ≠ X.env.locals->b ∈ X.fs->b ∉ ch->s.heap.get? b = some o->H b = none->∃ sl,h'.get? b = some { o with slots:=sl }) (free : ∀ b o,b ∉ ch->s.heap.get? b = some o->H b = none->H' b = none)
  (there : ∀ b o,b ∉ ch->s.heap.get? b = some o->∃ o',h'.get? b = some o')
  (tups : ∀ b xs,H b = some (.tup xs)->H' b = some (.tup xs)) (frzs : ∀ b o u,H b = some (.frz o u)->H' b = some (.frz o u)) (tbls : ∀ b ps,H b = some (.tbl ps)->∃ more,H' b = some (.tbl (ps++more)))
  (ns : ∀ m,s.heap.Ns X.env.locals m->h'.Ns X.env.locals m) (hok : HOk X.prog X.w H' h') (hg : AllBare g') :
  Inv X pins σ H' { s with heap:=h',gens:=g',drawn:=d',toks:=t' }:=by
 have neL : ∀ b o,X.s₀.heap.get? b = some o->b ≠ X.env.locals:=fun b o e=>Nat.ne_of_lt (Nat.lt_of_lt_of_le (Heap.lt_size e) I.ok.above)
 have neC : ∀ b o,X.s₀.heap.get? b = some o->b ∉ X.ex->b ∉ ch:=fun b o e hx hb=>by
  rcases (hch b hb).1 with z | z
  ·exact hx z
  ·exact absurd (Nat.lt_of_lt_of_le (Heap.lt_size e) z) (Nat.lt_irrefl _)
 have cellK : ∀ x c,X.env.cells.lookup x = some c->∀ v,s.heap.IsCell c v->h'.IsCell c v:=fun x c e v ⟨o,ho,hd⟩=>by
  have nch : c ∉ ch:=fun z=>(hch c z).2.2.1 x c e rfl
  by_cases hc : c ∈ X.fs
  ·obtain ⟨sl,q⟩:=slot c o (I.cne x c e) hc nch ho (I.freeC x c e)
   exact ⟨_,q,hd⟩
  ·exact ⟨o,keep c o (I.cne x c e) hc nch ho (I.freeC x c e),hd⟩
 refine ⟨I.ok,I.os,hg,⟨fun b o e n hb hx=>?_,fun b o e n hb hx=>?_,fun b o e n hx=>?_,fun b o e hx=>?_,fun b xs e=>tups b xs (I.base.tups b xs e),fun b o xs e=>frzs b o xs (I.base.frzs b o xs e),fun b ps e=>?_⟩,?_,fun x c e=>?_,?_,fun x c e=>?_,fun p hp=>?_,hok,I.len⟩
 ·exact keep b o (neL b o e) hb (neC b o e hx) (I.base.keep b o e n hb hx) (I.base.free b o e n hx)
 ·obtain ⟨sl,e1⟩:=I.base.slot b o e n hb hx
  obtain ⟨sl',e2⟩:=slot b _ (neL b o e) hb (neC b o e hx) e1 (I.base.free b o e n hx)
  exact ⟨sl',e2⟩
 ·obtain ⟨o',e1⟩:=I.base.there b o e hx
  exact free b o' (neC b o e hx) e1 (I.base.free b o e n hx)
 ·obtain ⟨o',e1⟩:=I.base.there b o e hx
  exact there b o' (neC b o e hx) e1
 ·obtain ⟨m1,e1⟩:=I.base.tbls b ps e
  obtain ⟨m2,e2⟩:=tbls b _ e1
  exact ⟨m1++m2,by rw [e2,Array.append_assoc]⟩
 ·obtain ⟨m,hn,hl⟩:=I.loc
  refine ⟨m,ns m hn,fun i x v e1 e2 e3=>?_⟩
  obtain ⟨u,r,l⟩:=hl i x v e1 e2 e3
  refine ⟨u,r,?_⟩
  rcases l with l | ⟨k,c,e,z⟩
  ·exact .inl l
  ·exact .inr ⟨k,c,e,cellK x c e _ z⟩
 ·obtain ⟨v,z⟩:=I.cell x c e
  exact ⟨v,cellK x c e v z⟩
 ·obtain ⟨m,⟨o,_,_,ho,_⟩,_⟩:=I.loc
  exact free _ o (fun z=>(hch _ z).2.1 rfl) ho I.free
 ·obtain ⟨v,o,ho,hd⟩:=I.cell x c e
  exact free c o (fun z=>(hch c z).2.2.1 x c e rfl) ho (I.freeC x c e)
 ·obtain ⟨e,n,ne,nf,d⟩:=I.pin p hp
  have nch : p.1 ∉ ch:=fun z=>(hch p.1 z).2.2.2 p hp rfl
  exact ⟨keep p.1 p.2 ne nf nch e n,free p.1 p.2 nch e n,ne,nf,d⟩
theorem Inv.un {t' : Nat} (I : Inv X pins σ H s) (u : Un X.fs [] H H' s.heap h') (hok : HOk X.prog X.w H' h') : Inv X pins σ H' { s with heap:=h',toks:=t' }:=by
 obtain ⟨m,⟨o,es,ep,ho,r⟩,_⟩:=id I.loc
 obtain ⟨sl,hL⟩:=u.any ho I.free (by simp)
 exact I.step (g':=s.gens) (d':=s.drawn) (ch:=[]) (fun _ z=>nomatch z) (fun b o _ hb _ e n=>u.keep b o e n hb (by simp)) (fun b o _ hb _ e n=>u.slot b o e n hb (by simp)) (fun b o _ e n=>u.free b o e n (by simp)) (fun b o _ e=>u.there b o e (by simp)) u.tups u.frzs u.tbls (fun m' hm=>by
  obtain ⟨o',es',ep',ho',r'⟩:=hm
  rw [ho] at ho'; cases ho'
  exact ⟨_,es',ep',hL,r'⟩) hok I.bare
theorem Inv.call {g' : Array GenState} {t' : Nat} {d' : Drawn} {ch : List Addr} (I : Inv X pins σ H s) (u : Un (frs X.stack) ch H H' s.heap h') (hok : HOk X.prog X.w H' h') (hg : AllBare g')
  (hch : ∀ b ∈ ch,(b ∈ X.ex \/ X.s₀.heap.objs.size <= b) /\ b ≠ X.env.locals /\ (∀ x c,X.env.cells.lookup x = some c->c ≠ b) /\ ∀ p ∈ X.pn++pins,p.1 ≠ b) :
  Inv X pins σ H' { s with heap:=h',gens:=g',drawn:=d',toks:=t' }:=by
 obtain ⟨m,⟨o,es,ep,ho,r⟩,_⟩:=id I.loc
 obtain ⟨sl,hL⟩:=u.any ho I.free fun z=>(hch _ z).2.1 rfl
 exact I.step (ch:=ch) hch (fun b o hL hb hc e n=>u.keep b o e n (fun z=>(List.mem_cons.mp (I.stkSub b z)).elim hL hb) hc) (fun b o _ _ hc e n=>u.any e n hc) (fun b o hc e n=>u.free b o e n hc) (fun b o hc e=>u.there b o e hc) u.tups u.frzs u.tbls (fun m' hm=>by
  obtain ⟨o',es',ep',ho',r'⟩:=hm
  rw [ho] at ho'; cases ho'
  exact ⟨_,es',ep',hL,r'⟩) hok hg
theorem Inv.turned {t' : Nat} {it : Addr} (I : Inv X pins σ H s) (k : ∀ b o,b ≠ it->s.heap.get? b = some o->h'.get? b = some o) (hn : H it = none) (hL : it ≠ X.env.locals)
  (h1 : it ∈ X.ex \/ X.s₀.heap.objs.size <= it) (h2 : ∀ x c,X.env.cells.lookup x = some c->c ≠ it) (h3 : ∀ p ∈ X.pn++pins,p.1 ≠ it) : Inv X pins σ H { s with heap:=h',toks:=t' }:=by
 have nit : ∀ b u,H b = some u->b ≠ it:=fun b u e z=>by rw [z,hn] at e; cases e
 refine I.step (g':=s.gens) (d':=s.drawn) (ch:=[it]) (fun b hb=>?_) (fun b o _ _ hc e _=>k b o (fun z=>hc (by simp [z])) e) (fun b o _ _ hc e _=>⟨o.slots,k b o (fun z=>hc (by simp [z])) e⟩) (fun _ _ _ _ n=>n)
  (fun b o hc e=>⟨o,k b o (fun z=>hc (by simp [z])) e⟩) (fun _ _ e=>e) (fun _ _ _ e=>e) (fun b ps e=>⟨#[],by rw [e]; simp⟩) (fun m hm=>?_) (fun b u e=>?_) I.bare
 ·have e : b = it:=by simpa using hb
  subst e
  exact ⟨h1,hL,h2,h3⟩
 ·obtain ⟨o,es,ep,ho,r⟩:=hm
  exact ⟨o,es,ep,k _ o (Ne.symm hL) ho,r⟩
 ·refine (I.hok b u e).stay (fun c v hc q=>k c v ?_ q) (fun _ q=>q) fun _ _ q=>q
  rcases hc with z | z
  ·rw [z]; exact nit b u e
  ·exact nit c _ z
theorem Inv.tok (I : Inv X pins σ H s) (t : Nat) : Inv X pins σ H { s with toks:=t }:=I.un (h':=s.heap) (t':=t) Un.refl I.hok
theorem Inv.kept {t' : Nat} (I : Inv X pins σ H s) (k : ∀ b u,s.heap.get? b = some u->h'.get? b = some u) : Inv X pins σ H { s with heap:=h',toks:=t' }:=I.un (Un.kept k) (I.hok.kept k)
theorem Inv.laid {a : Addr} {o : HO} {t' : Nat} (I : Inv X pins σ H s) (k : ∀ b u,s.heap.get? b = some u->h'.get? b = some u) (hp : s.heap.objs.size <= a) (new : yR X.prog X.w (upd H a o) h' a o) :
  Inv X pins σ (upd H a o) { s with heap:=h',toks:=t' }:=I.un (Un.laid k hp (I.hok.fresh hp)) (I.hok.laid k hp new)
theorem Inv.write {x e : Addr} {o : HO} {t' : Nat} (I : Inv X pins σ H s) (mu : Mut (H x)) (he : e = x \/ H e = some (.own x)) (k : ∀ b u,b ≠ e->s.heap.get? b = some u->h'.get? b = some u) (heo : ∃ u,h'.get? e = some u)
  (new : yR X.prog X.w (upd H x o) h' x o) : Inv X pins σ (upd H x o) { s with heap:=h',toks:=t' }:=I.un (Un.write mu he k heo) (I.hok.write mu he k heo new)
theorem Inv.weak {σ' : List (Option V)} (I : Inv X pins σ H s) (hl : σ'.length = σ.length) (w : ∀ (i : Nat) v,σ'[i]? = some (some v)->σ[i]? = some (some v)) : Inv X pins σ' H s:=
 ⟨I.ok,I.os,I.bare,I.base,let ⟨m,hn,hl'⟩:=I.loc; ⟨m,hn,fun i x v e1 e2 e3=>hl' i x v e1 (w i v e2) e3⟩,I.cell,I.free,I.freeC,I.pin,I.hok,hl.trans I.len⟩
theorem Inv.pins_of {pins' : List (Addr × Obj)} (I : Inv X pins σ H s) (h : ∀ p ∈ pins',s.heap.get? p.1 = some p.2 /\ H p.1 = none /\ p.1 ≠ X.env.locals /\ p.1 ∉ X.fs /\ ∀ v,p.2.data ≠ .cell v) : Inv X pins' σ H s:=
 ⟨I.ok,I.os,I.bare,I.base,I.loc,I.cell,I.free,I.freeC,fun p hp=>(List.mem_append.mp hp).elim (fun z=>I.pin p (List.mem_append_left _ z)) (h p),I.hok,I.len⟩
theorem Ym {N : List Str} (hN : N.Nodup) {i j : Nat} {x : Str} (a : N[i]? = some x) (b : N[j]? = some x) : i = j:=by
 obtain ⟨h1,e1⟩:=List.getElem?_eq_some_iff.mp a
 obtain ⟨h2,e2⟩:=List.getElem?_eq_some_iff.mp b
 exact (List.getElem_inj hN).mp (e1.trans e2.symm)
theorem jI {M : Model} {A : Around} {E : Value->Shared->Prop} {i : Nat} {x : Str} {v : V} {u : Value} {Q : Unit->Shared->Prop} (I : Inv X pins σ H s) (hN : X.N.Nodup) (hi : X.N[i]? = some x) (hx : Loc X.env.scope x) (r : yp v u)
  (h : ∀ s',Inv X pins (σ.set i (some v)) H s'->(∃ a,Heap.SameBut a s.heap s'.heap /\ (a = X.env.locals \/ X.env.cells.lookup x = some a))->Q () s') (hf : X.fn x = true \/ X.env.scope.names.lookup x = some .local:=by first | exact .inl rfl | exact .inr rfl | assumption) : wpAny M A (storeName X.env x u) Q E s:=by
 obtain ⟨m,hn,hl⟩:=id I.loc
 have hcls : (X.env.scope.kind == .class || (X.env.scope.kind == .module && X.env.locals != X.env.globals)) = false:=by rw [I.ok.kind]; rfl
 have hiσ : i < σ.length:=by rw [I.len]; exact (List.getElem?_eq_some_iff.mp hi).1
 have cne:=I.cne
 have tracked : ∀ {a : Addr} {h' : Heap},(∃ o,s.heap.get? a = some o /\ H a = none)->Heap.SameBut a s.heap h'->HOk X.prog X.w H h':=fun {a h'} ha hs b ob e=>by
  obtain ⟨_,_,hfree⟩:=ha
  refine (I.hok b ob e).stay (fun c w' hc q=>(hs.2 c ?_).trans q) (fun _ q=>q) fun _ _ q=>q
  rintro rfl
  rcases hc with rfl | hc
  ·rw [hfree] at e; cases e
  ·rw [hfree] at hc; cases hc
 rcases hx with hk | hk
 ·refine wpAny_storeName_local hk hn (fun h' hn' hs=>?_) hcls
  obtain ⟨oL,_,_,hoL,_⟩:=id hn
  refine h _ ⟨I.ok,I.os,I.bare,⟨fun b o e n hb hx=>?_,fun b o e n hb hx=>?_,I.base.free,fun b o e hx=>?_,I.base.tups,I.base.frzs,I.base.tbls⟩,⟨_,hn',fun j y v' e1 e2 e3=>?_⟩,fun y c e=>?_,I.free,I.freeC,fun p hp=>?_,tracked ⟨oL,hoL,I.free⟩ hs,by simpa using I.len⟩ ⟨_,hs,.inl rfl⟩
  ·exact (hs.2 b (Nat.ne_of_lt (Nat.lt_of_lt_of_le (Heap.lt_size e) I.ok.above))).trans (I.base.keep b o e n hb hx)
  ·obtain ⟨sl,e1⟩:=I.base.slot b o e n hb hx
   exact ⟨sl,(hs.2 b (Nat.ne_of_lt (Nat.lt_of_lt_of_le (Heap.lt_size e) I.ok.above))).trans e1⟩
  ·obtain ⟨o',e1⟩:=I.base.there b o e hx
   exact ⟨o',(hs.2 b (Nat.ne_of_lt (Nat.lt_of_lt_of_le (Heap.lt_size e) I.ok.above))).trans e1⟩
  ·by_cases hj : j = i
   ·subst hj
    rw [hi] at e1; cases e1
    rw [List.getElem?_set_self hiσ] at e2
    cases e2
    exact ⟨u,r,.inl ⟨hk,by simp⟩⟩
   ·rw [List.getElem?_set_ne (Ne.symm hj)] at e2
    obtain ⟨u',r',q⟩:=hl j y v' e1 e2 e3
    refine ⟨u',r',?_⟩
    rcases q with ⟨k,e⟩ | ⟨k,c,e,z⟩
    ·refine .inl ⟨k,?_⟩
     have : y ≠ x:=fun e=>hj (Ym hN e1 (e ▸ hi))
     simp [this,e]
    ·exact .inr ⟨k,c,e,z.sameBut hs (cne y c e)⟩
  ·obtain ⟨w',z⟩:=I.cell y c e
   exact ⟨w',z.sameBut hs (cne y c e)⟩
  ·obtain ⟨e,n,ne,nf,d⟩:=I.pin p hp
   exact ⟨(hs.2 p.1 ne).trans e,n,ne,nf,d⟩
 ·have hfn : X.fn x = true:=by
   rcases hf with z | z
   ·exact z
   ·rw [z] at hk; cases hk
  obtain ⟨c,hc⟩:=I.ok.has x (.inl hk)
  obtain ⟨w',z⟩:=I.cell x c hc
  refine wpAny_storeName_cell I.ok.kind hk hc z (fun h' hc' hs=>?_)
  obtain ⟨oc,hoc,hocd⟩:=id z
  refine h { s with heap:=h' } ⟨I.ok,I.os,I.bare,⟨fun b o e n hb hx=>?_,fun b o e n hb hx=>?_,I.base.free,fun b o e hx=>?_,I.base.tups,I.base.frzs,I.base.tbls⟩,⟨m,hn.sameBut hs (Ne.symm (cne x c hc)),fun j y v' e1 e2 e3=>?_⟩,fun y c' e=>?_,I.free,I.freeC,fun p hp=>?_,tracked ⟨oc,hoc,I.freeC x c hc⟩ hs,by simpa using I.len⟩ ⟨c,hs,.inr hc⟩
  ·exact (hs.2 b (Nat.ne_of_lt (Nat.lt_of_lt_of_le (Heap.lt_size e) (I.ok.cab x c hfn hc)))).trans (I.base.keep b o e n hb hx)
  ·obtain ⟨sl,e1⟩:=I.base.slot b o e n hb hx
   exact ⟨sl,(hs.2 b (Nat.ne_of_lt (Nat.lt_of_lt_of_le (Heap.lt_size e) (I.ok.cab x c hfn hc)))).trans e1⟩
  ·obtain ⟨o',e1⟩:=I.base.there b o e hx
   exact ⟨o',(hs.2 b (Nat.ne_of_lt (Nat.lt_of_lt_of_le (Heap.lt_size e) (I.ok.cab x c hfn hc)))).trans e1⟩
  ·by_cases hj : j = i
   ·subst hj
    rw [hi] at e1; cases e1
    rw [List.getElem?_set_self hiσ] at e2
    cases e2
    exact ⟨u,r,.inr ⟨.inl hk,c,hc,hc'⟩⟩
   ·rw [List.getElem?_set_ne (Ne.symm hj)] at e2
    obtain ⟨u',r',q⟩:=hl j y v' e1 e2 e3
    refine ⟨u',r',?_⟩
    rcases q with q | ⟨k,c',e,z'⟩
    ·exact .inl q
    ·refine .inr ⟨k,c',e,z'.sameBut hs ?_⟩
     rintro rfl
     exact hj (Ym hN e1 (I.ok.inj _ _ _ e hc ▸ hi))
  ·by_cases hcc : c' = c
   ·subst hcc; exact ⟨_,hc'⟩
   ·obtain ⟨w2,z2⟩:=I.cell y c' e
    exact ⟨w2,z2.sameBut hs hcc⟩
  ·obtain ⟨e,n,ne,nf,d⟩:=I.pin p hp
   refine ⟨(hs.2 p.1 ?_).trans e,n,ne,nf,d⟩
   intro q
   rw [q,hoc] at e
   have q' : oc = p.2:=Option.some.inj e
   exact d w' (by rw [<- q']; exact hocd)
theorem Yn {M : Model} {A : Around} {E : Value->Shared->Prop} {i : Nat} {x : Str} {v : V} {u : Value} {Q : Unit->Shared->Prop} (I : Inv X pins σ H s) (hN : X.N.Nodup) (hi : X.N[i]? = some x) (hx : Loc X.env.scope x) (r : yp v u)
  (h : ∀ s',Inv X pins (σ.set i (some v)) H s'->Q () s') (hf : X.fn x = true \/ X.env.scope.names.lookup x = some .local:=by first | exact .inl rfl | exact .inr rfl | assumption) : wpAny M A (storeName X.env x u) Q E s:=
 jI I hN hi hx r (fun s' I' _=>h s' I') hf
theorem Inv.call' {s' : Shared} {ch : List Addr} (I : Inv X pins σ H s) (ho : s'.os = s.os) (u : Un (frs X.stack) ch H H' s.heap s'.heap) (hok : HOk X.prog X.w H' s'.heap) (hg : AllBare s'.gens)
  (hch : ∀ b ∈ ch,(b ∈ X.ex \/ X.s₀.heap.objs.size <= b) /\ b ≠ X.env.locals /\ (∀ x c,X.env.cells.lookup x = some c->c ≠ b) /\ ∀ p ∈ X.pn++pins,p.1 ≠ b) : Inv X pins σ H' s':=by
 obtain ⟨h',g',d',t',o'⟩:=s'
 have e : o' = s.os:=ho
 subst e
 exact I.call (g':=g') (t':=t') (d':=d') u hok hg hch
end
abbrev XK:=Value->Option Addr->Hp->Prop
abbrev St:=List (Option V)
abbrev VK:=V->Hp->Prop
abbrev TE:=St->Hp->VK->Prop
abbrev TT:=St->Hp->(Bool->Hp->Prop)->Prop
abbrev TA:=St->Hp->(List V->Hp->Prop)->Prop
structure Ends where
 nx : St->Hp->Prop
 rt : VK
 bk : St->Hp->Prop:=fun _ _=>False
 ct : St->Hp->Prop:=fun _ _=>False
abbrev TS:=Ends->St->Hp->Prop
def EP (X : Cx) (pins : List (Addr × Obj)) (σ : St) (Q : VK) (u : Value) (s' : Shared) : Prop:=∃ v H',Inv X pins σ H' s' /\ yp v u /\ Q v H'
def TP (X : Cx) (pins : List (Addr × Obj)) (σ : St) (Q : Bool->Hp->Prop) (b : Bool) (s' : Shared) : Prop:=∃ H',Inv X pins σ H' s' /\ Q b H'
def AP (X : Cx) (pins : List (Addr × Obj)) (σ : St) (Q : List V->Hp->Prop) (us : List Value) (s' : Shared) : Prop:=∃ vs H',Inv X pins σ H' s' /\ yn vs us /\ Q vs H'
def SP (X : Cx) (pins : List (Addr × Obj)) (D : Ends) (f : Flow) (s' : Shared) : Prop:=
 match f with
 | .next=>∃ σ' H',Inv X pins σ' H' s' /\ D.nx σ' H'
 | .brk=>∃ σ' H',Inv X pins σ' H' s' /\ D.bk σ' H'
 | .cont=>∃ σ' H',Inv X pins σ' H' s' /\ D.ct σ' H'
 | .ret u=>∃ v σ' H',Inv X pins σ' H' s' /\ yp v u /\ D.rt v H'
def PE (X : Cx) (e : Expr) (t : TE) : Prop:=
 ∀ (pins : List (Addr × Obj)) (s : Shared) (σ : St) (H : Hp) (Q : VK),Inv X pins σ H s->t σ H Q->wpAny (model X.prog X.w) X.A (eval e X.env) (EP X pins σ Q) X.xe s
def PT (X : Cx) (e : Expr) (t : TT) : Prop:=
 ∀ (pins : List (Addr × Obj)) (s : Shared) (σ : St) (H : Hp) (Q : Bool->Hp->Prop),Inv X pins σ H s->t σ H Q->wpAny (model X.prog X.w) X.A (isTrue e X.env (eval e X.env)) (TP X pins σ Q) X.xe s
def PW (X : Cx) (e : Expr) (t : TT) : Prop:=
 ∀ (whole : Sem Value) (pins : List (Addr × Obj)) (s : Shared) (σ : St) (H : Hp) (Q : Bool->Hp->Prop),Inv X pins σ H s->t σ H Q->wpAny (model X.prog X.w) X.A (isTrue e X.env whole) (TP X pins σ Q) X.xe s
theorem PW.pt {X : Cx} {e : Expr} {t : TT} (h : PW X e t) : PT X e t:=h _
def PA (X : Cx) (es : List Expr) (t : TA) : Prop:=
 ∀ (pos : Pos) (pins : List (Addr × Obj)) (s : Shared) (σ : St) (H : Hp) (Q : List V->Hp->Prop),Inv X pins σ H s->t σ H Q->wpAny (model X.prog X.w) X.A (spliced (backTo pos (starEach es X.env))) (AP X pins σ Q) X.xe s
def PS (X : Cx) (st : Stmt) (t : TS) : Prop:=
 ∀ (pins : List (Addr × Obj)) (s : Shared) (σ : St) (H : Hp) (D : Ends),Inv X pins σ H s->t D σ H->wpAny (model X.prog X.w) X.A (exec st X.env) (SP X pins D) X.xe s
def PSs (X : Cx) (st : List Stmt) (t : TS) : Prop:=
 ∀ (pins : List (Addr × Obj)) (s : Shared) (σ : St) (H : Hp) (D : Ends),Inv X pins σ H s->t D σ H->wpAny (model X.prog X.w) X.A (execs st X.env) (SP X pins D) X.xe s
theorem thn {α : Type} {t : Sem α} {Q Q' : α->Shared->Prop} {M : Model} {A : Around} {E : Value->Shared->Prop} {s : Shared} (h : wpAny M A t Q E s) (hQ : ∀ a s,Q a s->Q' a s) : wpAny M A t Q' E s:=wpAny_mono h hQ fun _ _ x=>x
section
variable {X : Cx}
theorem bin {a b : Expr} {ta tb : TE} (ha : PE X a ta) (hb : PE X b tb) {pins : List (Addr × Obj)} {s : Shared} {σ : St} {H : Hp} {R : V->V->Hp->Prop} (I : Inv X pins σ H s) (h : ta σ H fun x H1=>tb σ H1 fun y H2=>R x y H2)
  {α : Type} {Q : α->Shared->Prop} {f : Value->Value->Sem α}
  (hf : ∀ v u s2 x y H2,Inv X pins σ H2 s2->yp x v->yp y u->R x y H2->wpAny (model X.prog X.w) X.A (f v u) Q X.xe s2) :
  wpAny (model X.prog X.w) X.A (eval a X.env) (fun v s₁=>wpAny (model X.prog X.w) X.A (eval b X.env) (fun u s₂=>wpAny (model X.prog X.w) X.A (f v u) Q X.xe s₂) X.xe s₁) X.xe s:=by
 refine thn (ha pins s σ H _ I h) fun v s1 ⟨x,H1,I1,r1,q1⟩=>?_
 refine thn (hb pins s1 σ H1 _ I1 q1) fun u s2 ⟨y,H2,I2,r2,q2⟩=>?_
 exact hf v u s2 x y H2 I2 r1 r2 q2
def zb0 (i : Nat) : TE:=fun σ H Q=>∃ v,σ[i]? = some (some v) /\ Q v H
def tC (v : V) : TE:=fun _ H Q=>Q v H
theorem wW {i : Nat} {x : Str} {pos : Pos} (hN : X.N[i]? = some x) (hv : Vis X.env.scope x) (hd : (x == ("__debug__" : Str)) = false:=by decide) (hcd : (x == ("__classdict__" : Str)) = false:=by decide) : PE X (.Name x pos) (zb0 i):=by
 intro pins s σ H Q I h
 obtain ⟨v,e,h⟩:=h
 obtain ⟨m,hn,hl⟩:=I.loc
 obtain ⟨u,r,l⟩:=hl i x v hN e hv
 have fin : EP X pins σ Q u s:=⟨v,H,I,r,h⟩
 rcases l with ⟨hk,hm⟩ | ⟨hk,c,hc,hcell⟩
 ·exact wpAny_Name (wpAny_loadName_local I.ok.kind hk hn hm fin) hd
 ·rcases hk with hk | hk
  ·exact wpAny_Name (wpAny_loadName_cell I.ok.kind hk hc hcell fin) hd
  ·exact wpAny_Name (wpAny_loadName_free I.ok.kind hk hc hcell fin hcd) hd
theorem Tr {i j pos} : PE X (.Constant (.int i) j pos) (tC (.int i)):=fun _ _ _ H _ I h=>wpAny_Constant_int ⟨.int i,H,I.tok _,⟨_,rfl⟩,h⟩
theorem zca {b j pos} : PE X (.Constant (.bool b) j pos) (tC (.bl b)):=fun _ _ _ H _ I h=>Constant_bool ⟨.bl b,H,I,rfl,h⟩
theorem J9 {x j pos} : PE X (.Constant (.str x) j pos) (tC (.str x)):=fun _ _ _ H _ I h=>Calls.Constant_str ⟨.str x,H,I.tok _,⟨_,rfl⟩,h⟩
def Gl (X : Cx) (x : Str) : Prop:=X.env.kindOf x = some .globalImplicit
theorem Zw {E : Value->Shared->Prop} {pins : List (Addr × Obj)} {s : Shared} {σ : St} {H : Hp} {x : Str} {u : Value} {pos : Pos} {Q : Value->Shared->Prop} (I : Inv X pins σ H s) (hg : Gl X x) (hm : X.mg x = some u) (h : Q u s)
  (hd : (x == ("__debug__" : Str)) = false:=by decide) : wpAny (model X.prog X.w) X.A (eval (.Name x pos) X.env) Q E s:=
 Calls.Name_function_global I.ok.kind hg (Calls.loadGlobal_global (by rw [I.ok.glob]; exact I.mod.glob.keeps I.bk) hm h) hd
theorem jJ {E : Value->Shared->Prop} {pins : List (Addr × Obj)} {s : Shared} {σ : St} {H : Hp} {x : Str} {u : Value} {pos : Pos} {Q : Value->Shared->Prop} (I : Inv X pins σ H s) (hg : Gl X x) (hm : X.mg x = none) (hv : bootBuiltins x = some u) (h : Q u s)
  (hn : x ≠ "__name__":=by decide) (hd : (x == ("__debug__" : Str)) = false:=by decide) : wpAny (model X.prog X.w) X.A (eval (.Name x pos) X.env) Q E s:=by
 obtain ⟨mb,h1,h2⟩:=I.mod.blt
 exact Calls.Name_function_global I.ok.kind hg (Calls.loadGlobal_builtin (by rw [I.ok.glob]; exact I.mod.glob.keeps I.bk) hm (by rw [I.ok.blt]; exact h1.keeps I.bk) ((h2 x hn).trans hv) h) hd
theorem Qp {x : Str} {v : V} {u : Value} {pos : Pos} (hg : Gl X x) (hm : X.mg x = some u) (r : yp v u) (hd : (x == ("__debug__" : Str)) = false:=by decide) : PE X (.Name x pos) (tC v):=
 fun _ _ _ H _ I h=>Zw I hg hm ⟨v,H,I,r,h⟩ hd
theorem Qq {x : Str} {v : V} {u : Value} {pos : Pos} (hg : Gl X x) (hm : X.mg x = none) (hv : bootBuiltins x = some u) (r : yp v u) (hn : x ≠ "__name__":=by decide) (hd : (x == ("__debug__" : Str)) = false:=by decide) : PE X (.Name x pos) (tC v):=
 fun _ _ _ H _ I h=>jJ I hg hm hv ⟨v,H,I,r,h⟩ hn hd
variable {a b : Expr} {ta tb : TE} {pos : Pos}
def PC (X : Cx) (op : CmpOp) (a b : Expr) (t : TE) : Prop:=
 ∀ (pins : List (Addr × Obj)) (s : Shared) (σ : St) (H : Hp) (Q : VK),Inv X pins σ H s->t σ H Q->
  wpAny (model X.prog X.w) X.A (eval a X.env) (fun v s₁=>wpAny (model X.prog X.w) X.A (eval b X.env) (fun u s₂=>wpAny (model X.prog X.w) X.A (compareOp op v u) (EP X pins σ Q) X.xe s₂) X.xe s₁) X.xe s
theorem Uh (b : Expr) {op : CmpOp} (h : op ≠ .In) (h2 : op ≠ .NotIn) : behindInMarks op b = false:=by
 have e1 : (op == CmpOp.In) = false:=by cases op <;> first | rfl | exact absurd rfl h
 have e2 : (op == CmpOp.NotIn) = false:=by cases op <;> first | rfl | exact absurd rfl h2
 cases b <;> simp [behindInMarks,e1,e2]
def tB (t : TE) : TT:=fun σ H Q=>t σ H fun x H1=>∃ c,x = .bl c /\ Q c H1
theorem zc6 {op : CmpOp} {t : TE} (h : PC X op a b t) (h1 : behindInMarks op b = false:=by first | exact Uh _ (by decide) (by decide) | rfl) : PT X (.Compare a [op] [b] pos) (tB t):=by
 intro pins s σ H Q I hw
 refine wpAny_isTrue_Compare1 (thn (h pins s σ H _ I hw) fun v s1 h1=>thn h1 fun u s2 h2=>thn h2 fun c s3 ⟨x,H1,I1,r1,q1⟩=>?_) h1
 obtain ⟨d,rfl,q⟩:=q1
 cases r1
 exact wpAny_truthy_bool ⟨H1,I1,q⟩
theorem zaa {e : Expr} {t : TE} (h : PE X e t) (he : ∀ whole,isTrue e X.env whole = (do let v <- whole; standAt e.pos; holding [v] (truthy v)):=by intro _; rfl) : PT X e (tB t):=by
 intro pins s σ H Q I hw
 refine isTrue_plain (thn (h pins s σ H _ I hw) fun v s1 ⟨x,H1,I1,r1,q1⟩=>?_) (he _)
 obtain ⟨d,rfl,q⟩:=q1
 cases r1
 exact wpAny_truthy_bool ⟨H1,I1,q⟩
variable {tA tB' : TT} {rest : List Expr}
def zdo (t u : TT) : TT:=fun σ H Q=>t σ H fun c H1=>if c = true then u σ H1 Q else Q false H1
def tOr (t u : TT) : TT:=fun σ H Q=>t σ H fun c H1=>if c = true then Q true H1 else u σ H1 Q
def zdp (t : TT) : TT:=fun σ H Q=>t σ H fun c H1=>Q (!c) H1
theorem Qr (ha : PT X a tA) : PW X (.BoolOp .And [a] pos) tA:=by
 intro wh pins s σ H Q I h
 refine isTrue_and (thn (ha pins s σ H Q I h) fun c s1 e=>?_)
 cases c with
 | true=>exact isTrue_and_nil e
 | false=>exact e
theorem zab (ha : PT X a tA) : PW X (.BoolOp .Or [a] pos) tA:=by
 intro wh pins s σ H Q I h
 refine isTrue_or (thn (ha pins s σ H Q I h) fun c s1 e=>?_)
 cases c with
 | false=>exact isTrue_or_nil e
 | true=>exact e
theorem zac (ha : PT X a tA) (hb : PW X (.BoolOp .And (b::rest) pos) tB') : PW X (.BoolOp .And (a::b::rest) pos) (zdo tA tB'):=by
 intro wh pins s σ H Q I h
 refine isTrue_and (thn (ha pins s σ H _ I h) fun c s1 ⟨H1,I1,q1⟩=>?_)
 cases c with
 | true=>exact hb wh pins s1 σ H1 Q I1 q1
 | false=>exact ⟨H1,I1,q1⟩
theorem zcb (ha : PT X a tA) (hb : PW X (.BoolOp .Or (b::rest) pos) tB') : PW X (.BoolOp .Or (a::b::rest) pos) (tOr tA tB'):=by
 intro wh pins s σ H Q I h
 refine isTrue_or (thn (ha pins s σ H _ I h) fun c s1 ⟨H1,I1,q1⟩=>?_)
 cases c with
 | true=>exact ⟨H1,I1,q1⟩
 | false=>exact hb wh pins s1 σ H1 Q I1 q1
theorem pt_not (ha : PT X a tA) : PT X (.UnaryOp .Not a pos) (zdp tA):=by
 intro pins s σ H Q I h
 exact isTrue_not (ha pins s σ H (fun c H1=>Q (!c) H1) I h)
def zcc (ta tb : TE) : TE:=fun σ H Q=>ta σ H fun x H1=>∃ c,x = .bl c /\ if c = true then tb σ H1 Q else Q (.bl false) H1
def zdq (ta tb : TE) : TE:=fun σ H Q=>ta σ H fun x H1=>∃ c,x = .bl c /\ if c = true then Q (.bl true) H1 else tb σ H1 Q
def zcd (ta : TE) : TE:=fun σ H Q=>ta σ H fun x H1=>∃ c,x = .bl c /\ Q (.bl (!c)) H1
theorem zad {op} {t : TE} (h : PE X a t) : PE X (.BoolOp op [a] pos) t:=fun pins s σ H Q I hw=>BoolOp_one (h pins s σ H Q I hw)
theorem zae (ha : PE X a ta) (hb : PE X (.BoolOp .And (b::rest) pos) tb) : PE X (.BoolOp .And (a::b::rest) pos) (zcc ta tb):=by
 intro pins s σ H Q I h
 refine BoolOp_and (thn (ha pins s σ H _ I h) fun v s1 ⟨x,H1,I1,r1,q1⟩=>?_)
 obtain ⟨c,rfl,q1⟩:=q1
 cases r1
 refine wpAny_truthy_bool ?_
 cases c with
 | true=>exact hb pins s1 σ H1 Q I1 q1
 | false=>exact ⟨.bl false,H1,I1,rfl,q1⟩
theorem zce (ha : PE X a ta) (hb : PE X (.BoolOp .Or (b::rest) pos) tb) : PE X (.BoolOp .Or (a::b::rest) pos) (zdq ta tb):=by
 intro pins s σ H Q I h
 refine BoolOp_or (thn (ha pins s σ H _ I h) fun v s1 ⟨x,H1,I1,r1,q1⟩=>?_)
 obtain ⟨c,rfl,q1⟩:=q1
 cases r1
 refine wpAny_truthy_bool ?_
 cases c with
 | false=>exact hb pins s1 σ H1 Q I1 q1
 | true=>exact ⟨.bl true,H1,I1,rfl,q1⟩
theorem zaf (ha : PE X a ta) : PE X (.UnaryOp .Not a pos) (zcd ta):=by
 intro pins s σ H Q I h
 refine UnaryOp_ (thn (ha pins s σ H _ I h) fun v s1 ⟨x,H1,I1,r1,q1⟩=>?_)
 obtain ⟨c,rfl,q1⟩:=q1
 cases r1
 exact not_of (wpAny_truthy_bool ⟨.bl (!c),H1,I1,rfl,q1⟩)
def tIf (t : TT) (ta tb : TE) : TE:=fun σ H Q=>t σ H fun c H1=>if c = true then ta σ H1 Q else tb σ H1 Q
theorem Ui {c : Expr} (hc : PT X c tA) (ha : PE X a ta) (hb : PE X b tb) : PE X (.IfExp c a b pos) (tIf tA ta tb):=by
 intro pins s σ H Q I h
 refine wpAny_IfExp (thn (hc pins s σ H _ I h) fun d s1 ⟨H1,I1,q1⟩=>?_)
 cases d with
 | true=>exact ha pins s1 σ H1 Q I1 q1
 | false=>exact hb pins s1 σ H1 Q I1 q1
end
def SqL (K : PySem.W.Frag) (H : Hp) (a : Addr) (xs : List V) : Prop:=
 Rd H a (.lst xs) \/
  ∃ (o : Obj) (its : Array Value) (n : Nat),K.lookup a = some o /\ o.cls = .type "list" /\ o.dict = none /\ o.data = .seq its n /\ its.size <= sizeLine /\ yn xs its.toList
def SqT (K : PySem.W.Frag) (H : Hp) (a : Addr) (xs : List V) : Prop:=
 Rd H a (.tup xs) \/
  ∃ (o : Obj) (its : Array Value) (n : Nat),K.lookup a = some o /\ o.cls = .type "tuple" /\ o.data = .seq its n /\ its.size <= sizeLine /\ yn xs its.toList
def zdr : Value->Option V
 | .none=>some .non
 | .bool b=>some (.bl b)
 | .int i _=>some (.int i)
 | .str x _=>some (.str x)
 | .bytes b _=>some (.byt b)
 | .float b _=>some (.flt b)
 | .ref a=>some (.ref a)
 | .type n=>some (.ty n)
 | _=>none
theorem yp.abs {x : V} {u : Value} (r : yp x u) : zdr u = some x:=by
 cases x with
 | non=>cases r; rfl
 | bl _=>cases r; rfl
 | int _=>obtain ⟨t,rfl⟩:=r; rfl
 | str _=>obtain ⟨t,rfl⟩:=r; rfl
 | byt _=>obtain ⟨t,rfl⟩:=r; rfl
 | flt _=>obtain ⟨t,rfl⟩:=r; rfl
 | ref _=>cases r; rfl
 | ty _=>cases r; rfl
theorem yp.inj {x y : V} {u : Value} (r : yp x u) (q : yp y u) : x = y:=Option.some.inj (r.abs.symm.trans q.abs)
theorem yn.inj : ∀ {xs ys : List V} {us : List Value},yn xs us->yn ys us->xs = ys
 | _,_,_,.nil,.nil=>rfl
 | _,_,_,.cons r t,.cons r' t'=>by rw [r.inj r',yn.inj t t']
section
variable {X : Cx} {pins : List (Addr × Obj)} {σ : St} {H : Hp} {s : Shared} {a : Addr} {xs ys : List V}
theorem SqL.of {K : PySem.W.Frag} (h : H a = some (.lst xs)) : SqL K H a xs:=.inl (.inl h)
theorem SqT.of {K : PySem.W.Frag} (h : H a = some (.tup xs)) : SqT K H a xs:=.inl (.inl h)
theorem Inv.list (I : Inv X pins σ H s) (h : SqL X.K H a xs) : ∃ its : List Value,yn xs its /\ PlainL s.heap a its.toArray /\ xs.length <= sizeLine:=by
 rcases h with h | ⟨o,its,n,hk,hc,hd,hs,hz,r⟩
 ·obtain ⟨z,its,n,r,e⟩:=h.ok I.hok
  exact ⟨its,r,⟨_,n,e,rfl,rfl,rfl⟩,z⟩
 ·refine ⟨its.toList,r,⟨o,n,I.kIn a o hk,hc,hd,by simpa using hs⟩,?_⟩
  have e:=r.length
  simp only [Array.length_toList] at e
  omega
theorem Inv.tuple (I : Inv X pins σ H s) (h : SqT X.K H a xs) : ∃ its : List Value,yn xs its /\ IsTup s.heap a its.toArray /\ xs.length <= sizeLine:=by
 rcases h with h | ⟨o,its,n,hk,hc,hs,hz,r⟩
 ·obtain ⟨z,its,r,p⟩:=h.ok I.hok
  exact ⟨its,r,p,z⟩
 ·refine ⟨its.toList,r,⟨o,I.kIn a o hk,hc,n,by simpa using hs⟩,?_⟩
  have e:=r.length
  simp only [Array.length_toList] at e
  omega
theorem Inv.list_inj (I : Inv X pins σ H s) (h : SqL X.K H a xs) (h' : SqL X.K H a ys) : xs = ys:=by
 obtain ⟨its,r,⟨o,n,e,_,_,d⟩,_⟩:=I.list h
 obtain ⟨its',r',⟨o',n',e',_,_,d'⟩,_⟩:=I.list h'
 rw [e] at e'; cases e'
 rw [d] at d'
 injection d' with d1 _
 have : its = its':=by simpa using congrArg Array.toList d1
 subst this
 exact r.inj r'
theorem Inv.tuple_inj (I : Inv X pins σ H s) (h : SqT X.K H a xs) (h' : SqT X.K H a ys) : xs = ys:=by
 obtain ⟨its,r,⟨o,e,_,n,d⟩,_⟩:=I.tuple h
 obtain ⟨its',r',⟨o',e',_,n',d'⟩,_⟩:=I.tuple h'
 rw [e] at e'; cases e'
 rw [d] at d'
 injection d' with d1 _
 have : its = its':=by simpa using congrArg Array.toList d1
 subst this
 exact r.inj r'
end
abbrev Cx.wish (X : Cx) (E : Value->Shared->Prop) : Cx:={ X with xe:=E }
abbrev Cx.nox (X : Cx) : Cx:=X.wish fun _ _=>False
theorem Cx.Ok.wish {X : Cx} (ok : X.Ok) (E : Value->Shared->Prop) : (X.wish E).Ok:=
 ⟨ok.mod,ok.kind,ok.glob,ok.blt,ok.above,ok.inj,ok.has,ok.cab,ok.hd,ok.frames,ok.stk,ok.exf,ok.bs,ok.bsz,ok.noex,ok.exfs,ok.funs,ok.frf⟩
theorem Cx.Ok.unwish {X : Cx} {E : Value->Shared->Prop} (ok : (X.wish E).Ok) : X.Ok:=
 ⟨ok.mod,ok.kind,ok.glob,ok.blt,ok.above,ok.inj,ok.has,ok.cab,ok.hd,ok.frames,ok.stk,ok.exf,ok.bs,ok.bsz,ok.noex,ok.exfs,ok.funs,ok.frf⟩
section
variable {X : Cx} {pins : List (Addr × Obj)} {σ : St} {H : Hp} {s : Shared} {E : Value->Shared->Prop}
theorem Inv.wish (I : Inv X pins σ H s) (E : Value->Shared->Prop) : Inv (X.wish E) pins σ H s:=⟨I.ok.wish E,I.os,I.bare,I.base,I.loc,I.cell,I.free,I.freeC,I.pin,I.hok,I.len⟩
theorem Inv.unwish (I : Inv (X.wish E) pins σ H s) : Inv X pins σ H s:=⟨I.ok.unwish,I.os,I.bare,I.base,I.loc,I.cell,I.free,I.freeC,I.pin,I.hok,I.len⟩
theorem SP.unwish {D : Ends} {f : Flow} {s' : Shared} (h : SP (X.wish E) pins D f s') : SP X pins D f s':=by
 cases f with
 | next=>obtain ⟨σ',H',I,q⟩:=h; exact ⟨σ',H',I.unwish,q⟩
 | brk=>obtain ⟨σ',H',I,q⟩:=h; exact ⟨σ',H',I.unwish,q⟩
 | cont=>obtain ⟨σ',H',I,q⟩:=h; exact ⟨σ',H',I.unwish,q⟩
 | ret u=>obtain ⟨v,σ',H',I,r,q⟩:=h; exact ⟨v,σ',H',I.unwish,r,q⟩
theorem PSs.nox {st : List Stmt} {t : TS} (h : PSs X.nox st t) : PSs X st t:=fun pins s σ H D I hw=>
 wpAny_mono (h pins s σ H D (I.wish _) hw) (fun _ _ q=>q.unwish) fun _ _ z=>False.elim z
end
section
variable {X : Cx} {st : Stmt} {rest : List Stmt} {t u : TS} {e : Expr} {te : TE} {pos : Pos}
def tNext : TS:=fun D σ H=>D.nx σ H
def zds (t u : TS) : TS:=fun D σ H=>t { D with nx:=u D } σ H
theorem Qs : PSs X [] tNext:=fun _ _ σ H _ I h=>wpAny_execs_nil ⟨σ,H,I,h⟩
theorem Uj (h1 : PS X st t) (h2 : PSs X rest u) : PSs X (st::rest) (zds t u):=by
 intro pins s σ H D I h
 refine wpAny_execs_cons (thn (h1 pins s σ H { D with nx:=u D } I h) fun f s1 q=>?_)
 cases f with
 | next=>
  obtain ⟨σ',H',I',q⟩:=q
  exact h2 pins s1 σ' H' D I' q
 | ret v=>exact q
 | brk=>exact q
 | cont=>exact q
theorem Inv.quiet {pins : List (Addr × Obj)} {σ : St} {H : Hp} {s : Shared} (I : Inv X pins σ H s) : interactive X.env = false:=by simp [interactive,I.ok.kind]
def zcf (te : TE) : TS:=fun D σ H=>te σ H fun _ H1=>D.nx σ H1
theorem XY (he : PE X e te) (hs : swapsWith e none pos.line X.env = pure false:=by rfl) : PS X (.Expr e pos) (zcf te):=by
 intro pins s σ H D I h
 exact wpAny_Expr_any (thn (he pins s σ H _ I h) fun v s1 ⟨x,H1,I1,r1,q1⟩=>⟨σ,H1,I1,q1⟩) I.quiet hs
def zdt (te : TE) : TS:=fun D σ H=>te σ H D.rt
theorem XZ (he : PE X e te) : PS X (.Return (some e) pos) (zdt te):=by
 intro pins s σ H D I h
 exact wpAny_Return_some (thn (he pins s σ H _ I h) fun v s1 ⟨x,H1,I1,r1,q1⟩=>⟨x,σ,H1,I1,r1,q1⟩)
def zdu (c : TT) (t u : TS) : TS:=fun D σ H=>c σ H fun b H1=>if b = true then t D σ H1 else u D σ H1
theorem zcg {c : Expr} {a b : List Stmt} {tc : TT} (hc : PT X c tc) (ha : PSs X a t) (hb : PSs X b u) : PS X (.If c a b pos) (zdu tc t u):=by
 intro pins s σ H D I h
 refine wpAny_If (thn (hc pins s σ H _ I h) fun d s1 ⟨H1,I1,q1⟩=>?_)
 cases d with
 | true=>exact ha pins s1 σ H1 D I1 q1
 | false=>exact hb pins s1 σ H1 D I1 q1
end
abbrev TG:=V->St->Hp->(St->Hp->Prop)->Prop
def PG (X : Cx) (target : Expr) (t : TG) : Prop:=
 ∀ (pins : List (Addr × Obj)) (s : Shared) (σ : St) (H : Hp) (v : V) (u : Value) (Q : St->Hp->Prop),Inv X pins σ H s->yp v u->t v σ H Q->
  wpAny (model X.prog X.w) X.A (assign target X.env u) (fun _ s'=>∃ σ' H',Inv X pins σ' H' s' /\ Q σ' H') X.xe s
abbrev zch:=V->V->V->Hp->(Hp->Prop)->Prop
def zc7 (X : Cx) (t : zch) : Prop:=
 ∀ (pins : List (Addr × Obj)) (s : Shared) (σ : St) (H : Hp) (o i v : V) (ov iv u : Value) (Q : Hp->Prop),Inv X pins σ H s->yp o ov->yp i iv->yp v u->t o i v H Q->
  wpAny (model X.prog X.w) X.A (setItem ov iv u) (fun _ s'=>∃ H',Inv X pins σ H' s' /\ Q H') X.xe s
section
variable {X : Cx} {pos : Pos}
def jK (i : Nat) : TG:=fun v σ H Q=>Q (σ.set i (some v)) H
theorem qN {i : Nat} {x : Str} (hN : X.N.Nodup) (hi : X.N[i]? = some x) (hx : Loc X.env.scope x) (hf : X.fn x = true \/ X.env.scope.names.lookup x = some .local:=by first | exact .inl rfl | exact .inr rfl | assumption) : PG X (.Name x pos) (jK i):=by
 intro pins s σ H v u Q I r h
 exact wpAny_assign_Name (Yn I hN hi hx r (fun s' I'=>⟨_,H,I',h⟩) hf)
def zdv (to ti : TE) (t : zch) : TG:=fun v σ H Q=>to σ H fun o H1=>ti σ H1 fun i H2=>t o i v H2 fun H3=>Q σ H3
theorem zag {o i : Expr} {to ti : TE} {t : zch} (ho : PE X o to) (hi : PE X i ti) (hs : zc7 X t)
  (ha : ∀ v,assign (.Subscript o i pos) X.env v = (do
   let ov <- holding [v] (eval o X.env)
   let iv <- holding [v,ov] (eval i X.env)
   standAt pos
   holding [v,ov,iv] (setItem ov iv v)
   release [v,ov,iv] []):=by intro _; rfl) : PG X (.Subscript o i pos) (zdv to ti t):=by
 intro pins s σ H v u Q I r h
 rw [ha]
 refine wpAny_bind (wpAny_holding (thn (ho pins s σ H _ I h) fun ov s1 ⟨x,H1,I1,r1,q1⟩=>?_))
 refine wpAny_bind (wpAny_holding (thn (hi pins s1 σ H1 _ I1 q1) fun iv s2 ⟨y,H2,I2,r2,q2⟩=>?_))
 refine wpAny_bind (wpAny_standAt (wpAny_bind (wpAny_holding (thn (hs pins s2 σ H2 x y v ov iv u _ I2 r1 r2 r q2) fun _ s3 ⟨H3,I3,q3⟩=>?_))))
 exact wpAny_release ⟨σ,H3,I3,q3⟩
def zah (te : TE) (g : TG) : TS:=fun D σ H=>te σ H fun x H1=>g x σ H1 D.nx
theorem zai {tg e : Expr} {te : TE} {g : TG} (he : PE X e te) (hg : PG X tg g) (hs : swapsWithSole [tg] e pos.line X.env = pure false:=by rfl) (hw : swappedStores [tg] e X.env = pure none:=by rfl)
  (h1 : (assignEach [tg] X.env).map (·.2) = [assign tg X.env]:=by rfl) : PS X (.Assign [tg] e pos) (zah te g):=by
 intro pins s σ H D I h
 refine wpAny_Assign_stores (thn (he pins s σ H _ I h) fun v s1 ⟨x,H1,I1,r1,q1⟩=>?_) hs hw
 rw [h1]
 exact thn (hg pins s1 σ H1 x v _ I1 r1 q1) fun _ s2 q=>q
theorem X0 {i : Nat} {x : Str} {e : Expr} {te : TE} {pos' : Pos} (hN : X.N.Nodup) (hi : X.N[i]? = some x) (hx : Loc X.env.scope x) (he : PE X e te) (hs : swapsWith e (some (.Name x pos')) pos.line X.env = pure false:=by rfl) (hf : X.fn x = true \/ X.env.scope.names.lookup x = some .local:=by first | exact .inl rfl | exact .inr rfl | assumption) :
  PS X (.Assign [.Name x pos'] e pos) (zah te (jK i)):=by
 intro pins s σ H D I h
 refine wpAny_Assign_Name (thn (he pins s σ H _ I h) fun v s1 ⟨y,H1,I1,r1,q1⟩=>?_) hs
 exact Yn I1 hN hi hx r1 (fun s2 I2=>⟨_,H1,I2,q1⟩) hf
end
section
variable {X : Cx} {pos : Pos}
end
structure It where
 go : Nat->Hp->Prop
 yld : Nat->Hp->V->Hp->Prop
 stop : Nat->Hp->Prop
def Uk (X : Cx) (pins : List (Addr × Obj)) (H : Hp) (b : Addr) : Prop:=
 H b = none /\ b ≠ X.env.locals /\ b ∉ X.fs /\ (b ∈ X.ex \/ X.s₀.heap.objs.size <= b) /\ (∀ x c,X.env.cells.lookup x = some c->c ≠ b) /\ ∀ p ∈ X.pn++pins,p.1 ≠ b
theorem Inv.fpOk {X : Cx} {pins : List (Addr × Obj)} {σ : St} {H H' : Hp} {s : Shared} {b : Addr} (I : Inv X pins σ H s) (hb : s.heap.objs.size <= b) (hn : H' b = none) : Uk X pins H' b:=by
 refine ⟨hn,Nat.ne_of_gt (Nat.lt_of_lt_of_le I.lt hb),I.nofs hb,.inr (Nat.le_trans I.sz hb),fun x c e z=>?_,fun p hp z=>?_⟩
 ·obtain ⟨v,q⟩:=I.cell x c e
  exact absurd (Nat.lt_of_lt_of_le q.lt (by rw [z]; exact hb)) (Nat.lt_irrefl _)
 ·exact absurd (Nat.lt_of_lt_of_le (Heap.lt_size (I.pin p hp).1) (by rw [z]; exact hb)) (Nat.lt_irrefl _)
structure Turn (P : Program) (w : World) (K : PySem.W.Frag) (tg : Expr) (J : It) (fp : List Addr) (it : Addr) (tn : Nat->Heap->Prop) : Prop where
 mem : it ∈ fp
 obj : ∀ i h,tn i h->∀ b ∈ fp,∃ o,h.get? b = some o /\ ∀ v,o.data ≠ .cell v
 keep : ∀ i h h',tn i h->(∀ b ∈ fp,∀ o,h.get? b = some o->h'.get? b = some o)->tn i h'
 item : ∀ (X : Cx),X.prog = P->X.w = w->X.K = K->X.calm = true->∀ (i : Nat) (pins : List (Addr × Obj)) (s : Shared) (σ : St) (H : Hp) (E : Value->Shared->Prop),Inv X pins σ H s->(∀ b ∈ fp,Uk X pins H b)->tn i s.heap->J.go i H->
  wpAny (model P w) X.A (pyNext (.ref it)) (fun r s1=>∃ u,r = some u /\
   wpAny (model P w) X.A (letOwnedTupleGo tg (.ref it) u) (fun _ s2=>∃ x H',Inv X pins σ H' s2 /\ yp x u /\ J.yld i H x H' /\ tn (i + 1) s2.heap /\ ∀ b ∈ fp,H' b = none) E s1) E s
 done : ∀ (X : Cx),X.prog = P->X.w = w->X.K = K->X.calm = true->∀ (i : Nat) (pins : List (Addr × Obj)) (s : Shared) (σ : St) (H : Hp) (E : Value->Shared->Prop),Inv X pins σ H s->(∀ b ∈ fp,Uk X pins H b)->tn i s.heap->J.stop i H->
  wpAny (model P w) X.A (pyNext (.ref it)) (fun r s1=>r = none /\ Inv X pins σ H s1) E s
 self : ∀ (A : Around) (i : Nat) (s : Shared) (Q : Value->Shared->Prop) (E : Value->Shared->Prop),tn i s.heap->Q (.ref it) s->wpAny (model P w) A (pyIter (.ref it)) Q E s
abbrev TI:=St->Hp->(It->Hp->Prop)->Prop
def PIE (X : Cx) (pins : List (Addr × Obj)) (σ : St) (tg : Expr) (R : It->Hp->Prop) (itv : Value) (s2 : Shared) : Prop:=
 ∃ (it : Addr) (fp : List Addr) (tn : Nat->Heap->Prop) (J : It) (H' : Hp),itv = .ref it /\ Inv X pins σ H' s2 /\ Turn X.prog X.w X.K tg J fp it tn /\ tn 0 s2.heap /\ (∀ b ∈ fp,Uk X pins H' b) /\ R J H'
def PI (X : Cx) (tg iter : Expr) (wi : TI) : Prop:=
 ∀ (pins : List (Addr × Obj)) (s : Shared) (σ : St) (H : Hp) (R : It->Hp->Prop),Inv X pins σ H s->wi σ H R->
  wpAny (model X.prog X.w) X.A (eval iter X.env) (fun v s1=>wpAny (model X.prog X.w) X.A (pyIter v) (PIE X pins σ tg R) X.xe s1) X.xe s
theorem Qt {M : Model} {A : Around} {E : Value->Shared->Prop} {s : Shared} {tg : Expr} {it : Addr} {u : Value} {o : Obj} {n : String} {vs : Array Value} {Q : Unit->Shared->Prop} (ho : s.heap.get? it = some o) (hc : o.cls = .type n) (hd : o.data = .fields vs)
  (hn : ["enumerate","zip","dict_itemiterator","dict_reverseitemiterator","odict_iterator","itertools.zip_longest","itertools.pairwise"].contains n = false) (hQ : Q () s) : wpAny M A (letOwnedTupleGo tg (.ref it) u) Q E s:=by
 unfold letOwnedTupleGo
 cases tg <;> first
  | exact wpAny_pure hQ
  | (cases u <;> first
    | exact wpAny_pure hQ
    | (refine wpAny_bind (wpAny_load ho ?_)
       rw [hc,hd]
       show wpAny M A (if (["enumerate","zip","dict_itemiterator","dict_reverseitemiterator","odict_iterator","itertools.zip_longest","itertools.pairwise"].contains n && vs[0]? == some (rawInt _)) = true then _ else _) Q E s
       rw [if_neg (by intro h; rw [hn,Bool.false_and] at h; cases h)]
       exact wpAny_pure hQ))
def Itl (K : PySem.W.Frag) (a : Addr) : It:=
 ⟨fun i H=>∃ xs x,SqL K H a xs /\ xs[i]? = some x,fun i H x H'=>H' = H /\ ∀ xs,SqL K H a xs->xs[i]? = some x,fun i H=>∃ xs,SqL K H a xs /\ xs.length <= i⟩
def Itt (K : PySem.W.Frag) (a : Addr) : It:=
 ⟨fun i H=>∃ xs x,SqT K H a xs /\ xs[i]? = some x,fun i H x H'=>H' = H /\ ∀ xs,SqT K H a xs->xs[i]? = some x,fun i H=>∃ xs,SqT K H a xs /\ xs.length <= i⟩
def Itr (lo : Int) (n : Nat) : It:=⟨fun i _=>i < n,fun i H x H'=>H' = H /\ x = .int (lo + i),fun i _=>n <= i⟩
theorem X1 {P : Program} {w : World} {K : PySem.W.Frag} {tg : Expr} (a it : Addr) : Turn P w K tg (Itl K a) [it] it (fun i h=>h.IsListIter it a i) where
 mem:=by simp
 obj:=fun i h st b hb=>by
  have e : b = it:=by simpa using hb
  subst e
  obtain ⟨o,e,c,d⟩:=st
  exact ⟨o,e,fun v z=>by rw [d] at z; cases z⟩
 keep:=fun i h h' st k=>st.at fun o e=>k it (by simp) o e
 item:=by
  intro X hP hw hK hc i pins s σ H E I hf st hg
  subst hP hw hK
  obtain ⟨xs,x,hq,hx⟩:=hg
  obtain ⟨its,rv,p,hz⟩:=I.list hq
  obtain ⟨u,hu,ru⟩:=rv.get hx
  obtain ⟨f0,f1,f2,f3,f4,f5⟩:=hf it (by simp)
  refine wpAny_pyNext_list_item st p.isList (x:=u) (by simpa using hu) fun h' st' sb=>?_
  have I1 : Inv X pins σ H { s with heap:=h' }:=I.turned (t':=s.toks) (fun b o hb e=>(sb.2 b hb).trans e) f0 f1 f3 f4 f5
  obtain ⟨o,e,c,d⟩:=id st'
  exact ⟨u,rfl,Qt (s:={ s with heap:=h' }) e c d (by decide) ⟨x,H,I1,ru,⟨rfl,fun ys hy=>by rw [I.list_inj hy hq]; exact hx⟩,st',fun b hb=>(hf b hb).1⟩⟩
 done:=by
  intro X hP hw hK hc i pins s σ H E I hf st hg
  subst hP hw hK
  obtain ⟨xs,hq,hx⟩:=hg
  obtain ⟨its,rv,p,hz⟩:=I.list hq
  obtain ⟨f0,f1,f2,f3,f4,f5⟩:=hf it (by simp)
  have hl:=rv.length
  exact wpAny_pyNext_list_end (I.ok.hd hc) st p.isList (by simp; omega) fun h' eb=>⟨rfl,I.turned (t':=s.toks) (fun b o hb e=>eb b o hb e) f0 f1 f3 f4 f5⟩
 self:=fun _ _ _ _ _ st h=>wpAny_pyIter_listiter st h
theorem Xc {P : Program} {w : World} {K : PySem.W.Frag} {tg : Expr} (a it : Addr) : Turn P w K tg (Itt K a) [it] it (fun i h=>h.IsTupleIter it a i) where
 mem:=by simp
 obj:=fun i h st b hb=>by
  have e : b = it:=by simpa using hb
  subst e
  obtain ⟨o,e,c,d⟩:=st
  exact ⟨o,e,fun v z=>by rw [d] at z; cases z⟩
 keep:=fun i h h' st k=>st.at fun o e=>k it (by simp) o e
 item:=by
  intro X hP hw hK hc i pins s σ H E I hf st hg
  subst hP hw hK
  obtain ⟨xs,x,hq,hx⟩:=hg
  obtain ⟨its,rv,p,hz⟩:=I.tuple hq
  obtain ⟨u,hu,ru⟩:=rv.get hx
  obtain ⟨f0,f1,f2,f3,f4,f5⟩:=hf it (by simp)
  refine wpAny_pyNext_tuple_item st (show s.heap.IsTuple a its.toArray from p) (x:=u) (by simpa using hu) fun h' st' sb=>?_
  have I1 : Inv X pins σ H { s with heap:=h' }:=I.turned (t':=s.toks) (fun b o hb e=>(sb.2 b hb).trans e) f0 f1 f3 f4 f5
  obtain ⟨o,e,c,d⟩:=id st'
  exact ⟨u,rfl,Qt (s:={ s with heap:=h' }) e c d (by decide) ⟨x,H,I1,ru,⟨rfl,fun ys hy=>by rw [I.tuple_inj hy hq]; exact hx⟩,st',fun b hb=>(hf b hb).1⟩⟩
 done:=by
  intro X hP hw hK hc i pins s σ H E I hf st hg
  subst hP hw hK
  obtain ⟨xs,hq,hx⟩:=hg
  obtain ⟨its,rv,p,hz⟩:=I.tuple hq
  obtain ⟨f0,f1,f2,f3,f4,f5⟩:=hf it (by simp)
  have hl:=rv.length
  exact wpAny_pyNext_tuple_end (I.ok.hd hc) st (show s.heap.IsTuple a its.toArray from p) (by simp; omega) fun h' eb=>⟨rfl,I.turned (t':=s.toks) (fun b o hb e=>eb b o hb e) f0 f1 f3 f4 f5⟩
 self:=fun _ _ _ _ _ st h=>wpAny_pyIter_tupleiter st h
theorem Xd {P : Program} {w : World} {K : PySem.W.Frag} {tg : Expr} (it : Addr) (lo : Int) (n : Nat) : Turn P w K tg (Itr lo n) [it] it (fun i h=>IsRangeIter h it (lo + (i : Nat) * 1) ((n : Int) - (i : Nat)) 1) where
 mem:=by simp
 obj:=fun i h st b hb=>by
  have e : b = it:=by simpa using hb
  subst e
  exact ⟨_,st,fun v z=>by
   have z' : Data.fields _ = Data.cell v:=z
   cases z'⟩
 keep:=fun i h h' st k=>k it (by simp) _ st
 item:=by
  intro X hP hw hK hc i pins s σ H E I hf st hg
  subst hP hw hK
  obtain ⟨f0,f1,f2,f3,f4,f5⟩:=hf it (by simp)
  have W:=Walks.range (prog:=X.prog) (w:=X.w) (I.ok.hd hc) it lo 1 n
  refine W.item i s _ _ hg st fun v h' tk hv st' kk=>?_
  obtain ⟨t,rfl⟩:=hv
  have I1 : Inv X pins σ H { s with heap:=h',toks:=tk }:=I.turned (fun b o hb e=>kk b o (by simpa using hb) e) f0 f1 f3 f4 f5
  refine ⟨_,rfl,Qt (s:={ s with heap:=h',toks:=tk }) (n:="range_iterator") st' rfl rfl (by decide) ⟨.int (lo + i),H,I1,⟨t,?_⟩,⟨rfl,rfl⟩,st',fun b hb=>(hf b hb).1⟩⟩
  rw [Int.mul_one]
 done:=by
  intro X hP hw hK hc i pins s σ H E I hf st hg
  subst hP hw hK
  obtain ⟨f0,f1,f2,f3,f4,f5⟩:=hf it (by simp)
  exact wpAny_pyNext_range_end (I.ok.hd hc) st (by have : n <= i:=hg; omega) fun h' eb=>⟨rfl,I.turned (t':=s.toks) (fun b o hb e=>eb b o hb e) f0 f1 f3 f4 f5⟩
 self:=fun _ _ _ _ _ st h=>wpAny_pyIter_rangeiter st h
section
variable {X : Cx} {tg : Expr}
theorem Yo {pins : List (Addr × Obj)} {σ : St} {H : Hp} {s : Shared} {R : It->Hp->Prop} {E : Value->Shared->Prop} {lo hi : Int} {t u v : Tok} {tk : Nat} (I : Inv X pins σ H s) (h1 : -(2 ^ 62) <= lo) (h2 : lo < 2 ^ 62) (h3 : -(2 ^ 62) <= hi) (h4 : hi < 2 ^ 62)
  (q : R (Itr lo (hi - lo).toNat) H) : wpAny (model X.prog X.w) X.A (pyIter (.ref s.heap.objs.size)) (PIE X pins σ tg R) E { s with heap:=s.heap.push { cls:=.type "range",data:=.fields #[.int lo t,.int hi u,.int 1 v] },toks:=tk }:=by
 refine wpAny_pyIter_range (IsRange.new ..) (small_one h1 h2 h3 h4) ?_
 have I1 : Inv X pins σ H { s with heap:=s.heap.push { cls:=.type "range",data:=.fields #[.int lo t,.int hi u,.int 1 v] },toks:=tk }:=I.kept fun b o e=>Heap.get?_push_of_some _ e
 refine ⟨(s.heap.push { cls:=.type "range",data:=.fields #[.int lo t,.int hi u,.int 1 v] }).objs.size,[(s.heap.push { cls:=.type "range",data:=.fields #[.int lo t,.int hi u,.int 1 v] }).objs.size],_,_,H,rfl,
  I1.kept (t':=tk) fun b o e=>Heap.get?_push_of_some _ e,Xd _ lo (hi - lo).toNat,?_,fun b hb=>?_,q⟩
 ·have e1 : lo + ((0 : Nat) : Int) * 1 = lo:=by simp
  have e2 : (((hi - lo).toNat : Nat) : Int) - ((0 : Nat) : Int) = Builtin.Range.rangeSize lo hi 1:=by rw [rangeSize_one]; split <;> omega
  show IsRangeIter _ _ (lo + ((0 : Nat) : Int) * 1) ((((hi - lo).toNat : Nat) : Int) - ((0 : Nat) : Int)) 1
  rw [e1,e2]
  exact Heap.get?_push_size _ rfl
 ·have e : b = (s.heap.push { cls:=.type "range",data:=.fields #[.int lo t,.int hi u,.int 1 v] }).objs.size:=by simpa using hb
  subst e
  exact I1.fpOk (Nat.le_refl _) (I1.hok.fresh (Nat.le_refl _))
def zci (ta : TA) : TI:=fun σ H R=>ta σ H fun vs H1=>∃ j : Int,vs = [.int j] /\ -(2 ^ 62) <= j /\ j < 2 ^ 62 /\ R (Itr 0 j.toNat) H1
def zcj (ta : TA) : TI:=fun σ H R=>ta σ H fun vs H1=>∃ i j : Int,vs = [.int i,.int j] /\ (-(2 ^ 62) <= i /\ i < 2 ^ 62 /\ -(2 ^ 62) <= j /\ j < 2 ^ 62) /\ R (Itr i (j - i).toNat) H1
theorem X2 {a : Expr} {ta : TA} {p pos : Pos} (hg : Gl X "range") (hm : X.mg "range" = none) (ha : PA X [a] ta) (hs : starEach [a] X.env = [(false,eval a X.env)]:=by rfl) : PI X tg (.Call (.Name "range" p) [a] [] pos) (zci ta):=by
 intro pins s σ H R I h
 refine Call_ (jJ I hg hm boot_range (PyProof.Rows.callWith_type1 (thn (ha pos pins s σ H _ I h) fun us s1 ⟨vs,H1,I1,r1,q1⟩=>?_) hs rfl))
 obtain ⟨j,e,q1,q2,q⟩:=q1
 subst e
 cases r1 with
 | cons r rr=>
  cases rr
  obtain ⟨t,rfl⟩:=r
  exact call_range_1 (Yo I1 (by omega) (by omega) q1 q2 (by simpa using q))
theorem X3 {a b : Expr} {ta : TA} {p pos : Pos} (hg : Gl X "range") (hm : X.mg "range" = none) (ha : PA X [a,b] ta) (hs : starEach [a,b] X.env = [(false,eval a X.env),(false,eval b X.env)]:=by rfl) (hs2 : starEach [b] X.env = [(false,eval b X.env)]:=by rfl) :
  PI X tg (.Call (.Name "range" p) [a,b] [] pos) (zcj ta):=by
 intro pins s σ H R I h
 refine Call_ (jJ I hg hm boot_range (PyProof.Rows.callWith_type1 (thn (ha pos pins s σ H _ I h) fun us s1 ⟨vs,H1,I1,r1,q1⟩=>?_) (by rw [hs,hs2]) (by rw [hs2]; rfl)))
 obtain ⟨i,j,e,⟨q1,q2,q3,q4⟩,q⟩:=q1
 subst e
 cases r1 with
 | cons r rr=>
  cases rr with
  | cons r' rr=>
   cases rr
   obtain ⟨t,rfl⟩:=r
   obtain ⟨t',rfl⟩:=r'
   exact call_range_2 (Yo I1 q1 q2 q3 q4 q)
def zdw (wi : TI) (g : TG) (tb : TS) : TS:=fun D σ H=>wi σ H fun J H1=>∃ W : Nat->Nat->St->Hp->Prop,(∃ m,W 0 m σ H1) /\ ∀ i m σ H,W i m σ H->
 (J.stop i H /\ D.nx σ H) \/ (J.go i H /\ ∃ N : St->Hp->Prop,(∀ σ' H',N σ' H'->∃ m',m' < m /\ W (i + 1) m' σ' H') /\ ∀ x H',J.yld i H x H'->g x σ H' fun σ2 H2=>tb { D with nx:=N,ct:=N,bk:=D.nx } σ2 H2)
def jL (fp : List Addr) (h : Heap) : List (Addr × Obj):=fp.filterMap fun b=>(h.get? b).map fun o=>(b,o)
theorem wt {fp : List Addr} {h : Heap} {b : Addr} {o : Obj} (hb : b ∈ fp) (e : h.get? b = some o) : (b,o) ∈ jL fp h:=List.mem_filterMap.mpr ⟨b,hb,by rw [e]; rfl⟩
theorem X4 {fp : List Addr} {h : Heap} {p : Addr × Obj} (hp : p ∈ jL fp h) : p.1 ∈ fp /\ h.get? p.1 = some p.2:=by
 obtain ⟨b,hb,e⟩:=List.mem_filterMap.mp hp
 cases q : h.get? b with
 | none=>rw [q] at e; cases e
 | some o=>
  rw [q] at e
  have e' : (b,o) = p:=Option.some.inj e
  subst e'
  exact ⟨hb,q⟩
theorem Inv.pinned {pins : List (Addr × Obj)} {σ : St} {H : Hp} {s : Shared} {fp : List Addr} (I : Inv X pins σ H s) (hf : ∀ b ∈ fp,Uk X pins H b) (ho : ∀ b ∈ fp,∃ o,s.heap.get? b = some o /\ ∀ v,o.data ≠ .cell v) : Inv X (pins++jL fp s.heap) σ H s:=
 I.pins_of fun p hp=>(List.mem_append.mp hp).elim (fun z=>I.pin p (List.mem_append_right _ z)) fun z=>by
  obtain ⟨hb,e⟩:=X4 z
  obtain ⟨f0,f1,f2,_⟩:=hf p.1 hb
  obtain ⟨o,e',d⟩:=ho p.1 hb
  rw [e] at e'; cases e'
  exact ⟨e,f0,f1,f2,d⟩
theorem Inv.unpinned {pins pl : List (Addr × Obj)} {σ : St} {H : Hp} {s : Shared} (I : Inv X (pins++pl) σ H s) : Inv X pins σ H s:=I.pins_of fun p hp=>I.pin p (List.mem_append_right _ (List.mem_append_left _ hp))
theorem zaj {iter : Expr} {body : List Stmt} {wi : TI} {g : TG} {tb : TS} {pos : Pos} (hp : PassesOwn (model X.prog X.w) X.A X.env X.xe) (hc : X.calm = true) (hi : PI X tg iter wi) (hg : PG X tg g) (hb : PSs X body tb)
  (hs : ∀ x,foldedSetIterable iter X.env x = pure x:=by intro _; rfl) : PS X (.For tg iter body [] pos) (zdw wi g tb):=by
 intro pins s σ H D I h
 refine wpAny_For (thn (hi pins s σ H _ I h) fun v s1 h1=>thn h1 fun itv s2 h2=>?_) hs
 obtain ⟨it,fp,tn,J,H2,e,I2,T,st2,f2,W,⟨m0,w0⟩,turn⟩:=h2
 subst e
 -- what stays true of the iterator's objects through the loop
 have stat : ∀ {H' : Hp},(∀ b ∈ fp,H' b = none)->∀ b ∈ fp,Uk X pins H' b:=fun hn b hb=>⟨hn b hb,(f2 b hb).2⟩
 refine codeAny_forLoop_any (fun n s'=>∃ i σ' H',Inv X pins σ' H' s' /\ tn i s'.heap /\ (∀ b ∈ fp,H' b = none) /\ W i n σ' H') ?_ m0 ⟨0,σ,H2,I2,st2,fun b hb=>(f2 b hb).1,w0⟩
 rintro n s3 ⟨i,σ3,H3,I3,st3,fr3,w3⟩
 rcases turn i n σ3 H3 w3 with ⟨stop,qn⟩ | ⟨go,N,hN,step⟩
 ·refine wpAny_passesOwn hp (thn (T.done X rfl rfl rfl hc i pins s3 σ3 H3 X.xe I3 (stat fr3) st3 stop) fun r s4 ⟨hr,I4⟩=>?_)
  subst hr
  exact wpAny_execs_nil ⟨σ3,H3,I4,qn⟩
 ·refine wpAny_passesOwn hp (thn (T.item X rfl rfl rfl hc i pins s3 σ3 H3 X.xe I3 (stat fr3) st3 go) fun r s4 ⟨u,hr,h4⟩=>?_)
  subst hr
  refine wpAny_passesOwn hp (thn h4 fun _ s5 ⟨x,H5,I5,r5,y5,st5,fr5⟩=>?_)
  have I5':=I5.pinned (stat fr5) (T.obj _ _ st5)
  refine wpAny_passesOwn hp (thn (hg _ s5 σ3 H5 x u _ I5' r5 (step x H5 y5)) fun _ s6 ⟨σ6,H6,I6,q6⟩=>?_)
  refine wpAny_passesOwn hp (thn (hb _ s6 σ6 H6 _ I6 q6) fun f s7 q7=>?_)
  have again : ∀ {σ7 : St} {H7 : Hp},Inv X (pins++jL fp s5.heap) σ7 H7 s7->N σ7 H7->∃ m,m < n /\ ∃ i σ' H',Inv X pins σ' H' s7 /\ tn i s7.heap /\ (∀ b ∈ fp,H' b = none) /\ W i m σ' H':=fun {σ7 H7} I7 n7=>by
   obtain ⟨m',hm,w7⟩:=hN σ7 H7 n7
   refine ⟨m',hm,i + 1,σ7,H7,I7.unpinned,T.keep _ _ _ st5 fun b hb o e=>(I7.pin (b,o) (List.mem_append_right _ (List.mem_append_right _ (wt hb e)))).1,fun b hb=>?_,w7⟩
   obtain ⟨o,e,d⟩:=T.obj _ _ st5 b hb
   exact (I7.pin (b,o) (List.mem_append_right _ (List.mem_append_right _ (wt hb e)))).2.1
  cases f with
  | next=>obtain ⟨σ7,H7,I7,n7⟩:=q7; exact again I7 n7
  | cont=>obtain ⟨σ7,H7,I7,n7⟩:=q7; exact again I7 n7
  | brk=>obtain ⟨σ7,H7,I7,q7⟩:=q7; exact ⟨σ7,H7,I7.unpinned,q7⟩
  | ret v=>obtain ⟨x7,σ7,H7,I7,r7,q7⟩:=q7; exact ⟨x7,σ7,H7,I7.unpinned,r7,q7⟩
end
abbrev R2:=V->V->Hp->VK->Prop
def OpR (X : Cx) (f : Value->Value->Sem Value) (r : R2) : Prop:=
 ∀ (pins : List (Addr × Obj)) (s : Shared) (σ : St) (H : Hp) (x y : V) (v u : Value) (Q : VK),Inv X pins σ H s->yp x v->yp y u->r x y H Q->
  wpAny (model X.prog X.w) X.A (f v u) (EP X pins σ Q) X.xe s
def UnR (X : Cx) (f : Value->Sem Value) (r : V->Hp->VK->Prop) : Prop:=
 ∀ (pins : List (Addr × Obj)) (s : Shared) (σ : St) (H : Hp) (x : V) (v : Value) (Q : VK),Inv X pins σ H s->yp x v->r x H Q->
  wpAny (model X.prog X.w) X.A (f v) (EP X pins σ Q) X.xe s
def xp (X : Cx) (f : Value) (r : List V->Hp->VK->Prop) : Prop:=
 ∀ (pins : List (Addr × Obj)) (s : Shared) (σ : St) (H : Hp) (xs : List V) (us : List Value) (Q : VK),Inv X pins σ H s->yn xs us->r xs H Q->
  wpAny (model X.prog X.w) X.A (call f us) (EP X pins σ Q) X.xe s
def tOp (r : R2) (ta tb : TE) : TE:=fun σ H Q=>ta σ H fun x H1=>tb σ H1 fun y H2=>r x y H2 Q
def tUn (r : V->Hp->VK->Prop) (ta : TE) : TE:=fun σ H Q=>ta σ H fun x H1=>r x H1 Q
def rI (C : Int->Int->Prop) (g : Int->Int->V) : R2:=fun x y H Q=>∃ i j,x = .int i /\ y = .int j /\ C i j /\ Q (g i j) H
def rI0 (g : Int->Int->V) : R2:=fun x y H Q=>∃ i j,x = .int i /\ y = .int j /\ Q (g i j) H
def rU (g : Int->V) : V->Hp->VK->Prop:=fun x H Q=>∃ i,x = .int i /\ Q (g i) H
section
variable {X : Cx} {a b c : Expr} {ta tb tc : TE} {pos : Pos}
theorem zck (ha : PE X a ta) (hb : PE X b tb) {pins : List (Addr × Obj)} {s : Shared} {σ : St} {H : Hp} {R : V->V->Hp->Prop} (I : Inv X pins σ H s)
  (h : ta σ H fun x H1=>tb σ H1 fun y H2=>R x y H2) {Q : Value->Shared->Prop} {f : Value->Value->Sem Value}
  (hf : ∀ v u s2 x y H2,Inv X pins σ H2 s2->yp x v->yp y u->R x y H2->wpAny (model X.prog X.w) X.A (f v u) Q X.xe s2) :
  wpAny (model X.prog X.w) X.A (eval a X.env) (fun v s₁=>wpAny (model X.prog X.w) X.A (eval b X.env) (fun u s₂=>wpAny (model X.prog X.w) X.A (f v u) Q X.xe s₂) X.xe s₁) X.xe s:=by
 refine thn (ha pins s σ H _ I h) fun v s1 ⟨x,H1,I1,r1,q1⟩=>?_
 refine thn (hb pins s1 σ H1 _ I1 q1) fun u s2 ⟨y,H2,I2,r2,q2⟩=>?_
 exact hf v u s2 x y H2 I2 r1 r2 q2
theorem zak {op : Operator} {r : R2} (ho : OpR X (binaryOp op) r) (ha : PE X a ta) (hb : PE X b tb) : PE X (.BinOp a op b pos) (tOp r ta tb):=by
 intro pins s σ H Q I h
 exact wpAny_BinOp (zck ha hb I h fun v u s2 x y H2 I2 rx ry q=>ho pins s2 σ H2 x y v u Q I2 rx ry q)
theorem zcl {op : UnaryOp} {r : V->Hp->VK->Prop} (ho : UnR X (unaryOp op) r) (ha : PE X a ta) : PE X (.UnaryOp op a pos) (tUn r ta):=by
 intro pins s σ H Q I h
 exact UnaryOp_ (thn (ha pins s σ H _ I h) fun v s1 ⟨x,H1,I1,r1,q1⟩=>ho pins s1 σ H1 x v Q I1 r1 q1)
theorem opI {f : Value->Value->Sem Value} {C : Int->Int->Prop} {g : Int->Int->Int}
  (rule : ∀ (i j : Int) (t u : Tok) (s : Shared) (Q : Value->Shared->Prop) (E : Value->Shared->Prop),C i j->Q (.int (g i j) s.toks) { s with toks:=s.toks + 1 }->wpAny (model X.prog X.w) X.A (f (.int i t) (.int j u)) Q E s) :
  OpR X f (rI C fun i j=>.int (g i j)):=by
 intro pins s σ H x y v u Q I rx ry h
 obtain ⟨i,j,rfl,rfl,hc,q⟩:=h
 obtain ⟨t,rfl⟩:=rx
 obtain ⟨t',rfl⟩:=ry
 exact rule i j t t' s _ _ hc ⟨.int (g i j),H,I.tok _,⟨_,rfl⟩,q⟩
theorem zc8 {f : Value->Value->Sem Value} {g : Int->Int->Int}
  (rule : ∀ (i j : Int) (t u : Tok) (s : Shared) (Q : Value->Shared->Prop) (E : Value->Shared->Prop),Q (.int (g i j) s.toks) { s with toks:=s.toks + 1 }->wpAny (model X.prog X.w) X.A (f (.int i t) (.int j u)) Q E s) :
  OpR X f (rI0 fun i j=>.int (g i j)):=by
 intro pins s σ H x y v u Q I rx ry h
 obtain ⟨i,j,rfl,rfl,q⟩:=h
 obtain ⟨t,rfl⟩:=rx
 obtain ⟨t',rfl⟩:=ry
 exact rule i j t t' s _ _ ⟨.int (g i j),H,I.tok _,⟨_,rfl⟩,q⟩
theorem zc9 {f : Value->Value->Sem Value} {g : Int->Int->Bool}
  (rule : ∀ (i j : Int) (t u : Tok) (s : Shared) (Q : Value->Shared->Prop) (E : Value->Shared->Prop),Q (.bool (g i j)) s->wpAny (model X.prog X.w) X.A (f (.int i t) (.int j u)) Q E s) :
  OpR X f (rI0 fun i j=>.bl (g i j)):=by
 intro pins s σ H x y v u Q I rx ry h
 obtain ⟨i,j,rfl,rfl,q⟩:=h
 obtain ⟨t,rfl⟩:=rx
 obtain ⟨t',rfl⟩:=ry
 exact rule i j t t' s _ _ ⟨.bl (g i j),H,I,rfl,q⟩
def zal (i j : Int) : Prop:=0 < j /\ j < 1073741824
def zam (i j : Int) : Prop:=0 <= j /\ j <= 1000000 /\ i.natAbs < 2 ^ 64
def Ts (i j : Int) : Prop:=(-(2 ^ 64) < i /\ i < 2 ^ 64) \/ (-(2 ^ 64) < j /\ j < 2 ^ 64)
theorem Ts.ok {i j : Int} (h : Ts i j) : IntMulOk i j:=by
 rcases h with ⟨h1,h2⟩ | ⟨h1,h2⟩
 ·exact .of_left (intBits_le_64 h1 h2)
 ·exact .of_right (intBits_le_64 h1 h2)
theorem zan : OpR X (binaryOp .Add) (rI0 fun i j=>.int (i + j)):=zc8 fun _ _ _ _ _ _ _ q=>add_int q
theorem zao : OpR X (binaryOp .Sub) (rI0 fun i j=>.int (i - j)):=zc8 fun _ _ _ _ _ _ _ q=>sub_int q
theorem zap : OpR X (binaryOp .Mult) (rI Ts fun i j=>.int (i * j)):=opI fun _ _ _ _ _ _ _ hc q=>mul_int q hc.ok
theorem Qu : OpR X (binaryOp .FloorDiv) (rI zal fun i j=>.int (i / j)):=opI fun i j _ _ _ _ _ hc q=>by
 have h1 : (0 : Int) < j:=hc.1
 have h2 : j < 1073741824:=hc.2
 exact floordiv_int (by omega) (by rw [Int.fdiv_eq_ediv_of_nonneg i (by omega)]; exact q) (.inl (PyProof.noPylong_small (by omega)))
theorem zaq : OpR X (binaryOp .Mod) (rI (fun _ j=>0 < j) fun i j=>.int (i % j)):=opI fun i j _ _ _ _ _ hc q=>by
 have h1 : (0 : Int) < j:=hc
 exact mod_int' (by omega) (by rw [Int.fmod_eq_emod_of_nonneg i (by omega)]; exact q)
theorem zar : OpR X (binaryOp .Pow) (rI zam fun i j=>.int (i ^ j.toNat)):=opI fun _ _ _ _ _ _ _ hc q=>pow_int_small hc.1 hc.2.1 hc.2.2 q
theorem unI {f : Value->Sem Value} {g : Int->Int}
  (rule : ∀ (i : Int) (t : Tok) (s : Shared) (Q : Value->Shared->Prop) (E : Value->Shared->Prop),Q (.int (g i) s.toks) { s with toks:=s.toks + 1 }->wpAny (model X.prog X.w) X.A (f (.int i t)) Q E s) :
  UnR X f (rU fun i=>.int (g i)):=by
 intro pins s σ H x v Q I rx h
 obtain ⟨i,rfl,q⟩:=h
 obtain ⟨t,rfl⟩:=rx
 exact rule i t s _ _ ⟨.int (g i),H,I.tok _,⟨_,rfl⟩,q⟩
theorem zas : UnR X (unaryOp .USub) (rU fun i=>.int (-i)):=unI fun _ _ _ _ _ q=>neg_int q
end
def zcm : V->V->Bool
 | .non,.non=>true | .non,.int _=>true | .int _,.non=>true | .non,.bl _=>true | .bl _,.non=>true | .non,.str _=>true | .str _,.non=>true
 | .int _,.int _=>true | .bl _,.bl _=>true | .str _,.str _=>true | .byt _,.byt _=>true
 | .int _,.str _=>true | .str _,.int _=>true | .bl _,.str _=>true | .str _,.bl _=>true
 | _,_=>false
def rEq : R2:=fun x y H Q=>zcm x y = true /\ Q (.bl (decide (x = y))) H
def rNe : R2:=fun x y H Q=>zcm x y = true /\ Q (.bl (!decide (x = y))) H
theorem X5 {i j : Int} : decide (V.int i = V.int j) = (i == j):=by
 rw [Bool.eq_iff_iff]
 simp
theorem Tt {i j : Bool} : decide (V.bl i = V.bl j) = (i == j):=by
 rw [Bool.eq_iff_iff]
 simp
theorem X6 {i j : Str} : decide (V.str i = V.str j) = (i == j):=by
 rw [Bool.eq_iff_iff]
 simp
theorem X7 {i j : Array UInt8} : decide (V.byt i = V.byt j) = (i.toList == j.toList):=by
 rw [Bool.eq_iff_iff]
 cases i
 cases j
 simp
section
variable {X : Cx} {a b c : Expr} {ta tb tc : TE} {pos : Pos}
theorem z8 {pins : List (Addr × Obj)} {σ : St} {H : Hp} {s : Shared} {Q : VK} {k k' : Bool} (I : Inv X pins σ H s) (q : Q (.bl k) H) (e : k = k') : EP X pins σ Q (.bool k') s:=by
 subst e
 exact ⟨.bl k,H,I,rfl,q⟩
theorem zcn : OpR X (compareOp .Eq) rEq:=by
 intro pins s σ H x y v u Q I rx ry h
 obtain ⟨hs,q⟩:=h
 cases x with
 | non=>
  cases rx
  cases y with
  | non=>cases ry; exact PySem.EqNone.eq_none_none (z8 I q (by simp))
  | bl j=>cases ry; exact PySem.EqNone.eq_none_bool (z8 I q (by simp))
  | int j=>obtain ⟨t',rfl⟩:=ry; exact PySem.EqNone.eq_none_int (z8 I q (by simp))
  | str j=>obtain ⟨t',rfl⟩:=ry; exact PySem.EqNone.eq_none_str (z8 I q (by simp))
  | _=>exact absurd (show false = true from hs) Bool.false_ne_true
 | bl i=>
  cases rx
  cases y with
  | non=>cases ry; exact PySem.EqNone.eq_bool_none (z8 I q (by simp))
  | bl j=>cases ry; exact eq_bool (z8 I q Tt)
  | str j=>obtain ⟨t',rfl⟩:=ry; exact PySem.EqMixed.eq_bool_str (z8 I q (by simp))
  | _=>exact absurd (show false = true from hs) Bool.false_ne_true
 | int i=>
  obtain ⟨t,rfl⟩:=rx
  cases y with
  | non=>cases ry; exact PySem.EqNone.eq_int_none (z8 I q (by simp))
  | int j=>obtain ⟨t',rfl⟩:=ry; exact eq_int (z8 I q X5)
  | str j=>obtain ⟨t',rfl⟩:=ry; exact PySem.EqMixed.eq_int_str (z8 I q (by simp))
  | _=>exact absurd (show false = true from hs) Bool.false_ne_true
 | str i=>
  obtain ⟨t,rfl⟩:=rx
  cases y with
  | non=>cases ry; exact PySem.EqNone.eq_str_none (z8 I q (by simp))
  | bl j=>cases ry; exact PySem.EqMixed.eq_str_bool (z8 I q (by simp))
  | int j=>obtain ⟨t',rfl⟩:=ry; exact PySem.EqMixed.eq_str_int (z8 I q (by simp))
  | str j=>obtain ⟨t',rfl⟩:=ry; exact eq_str (z8 I q X6)
  | _=>exact absurd (show false = true from hs) Bool.false_ne_true
 | byt i=>
  obtain ⟨t,rfl⟩:=rx
  cases y with
  | byt j=>obtain ⟨t',rfl⟩:=ry; exact PySem.W.eq_bytes (z8 I q X7)
  | _=>exact absurd (show false = true from hs) Bool.false_ne_true
 | _=>cases y <;> exact absurd (show false = true from hs) Bool.false_ne_true
theorem zco : OpR X (compareOp .NotEq) rNe:=by
 intro pins s σ H x y v u Q I rx ry h
 obtain ⟨hs,q⟩:=h
 cases x with
 | non=>
  cases rx
  cases y with
  | non=>cases ry; exact PySem.EqNone.ne_none_none (z8 I q (by simp))
  | bl j=>cases ry; exact PySem.EqNone.ne_none_bool (z8 I q (by simp))
  | int j=>obtain ⟨t',rfl⟩:=ry; exact PySem.EqNone.ne_none_int (z8 I q (by simp))
  | str j=>obtain ⟨t',rfl⟩:=ry; exact PySem.EqNone.ne_none_str (z8 I q (by simp))
  | _=>exact absurd (show false = true from hs) Bool.false_ne_true
 | bl i=>
  cases rx
  cases y with
  | non=>cases ry; exact PySem.EqNone.ne_bool_none (z8 I q (by simp))
  | bl j=>cases ry; exact ne_bool (z8 I q (congrArg not Tt))
  | str j=>obtain ⟨t',rfl⟩:=ry; exact PySem.EqMixed.ne_bool_str (z8 I q (by simp))
  | _=>exact absurd (show false = true from hs) Bool.false_ne_true
 | int i=>
  obtain ⟨t,rfl⟩:=rx
  cases y with
  | non=>cases ry; exact PySem.EqNone.ne_int_none (z8 I q (by simp))
  | int j=>obtain ⟨t',rfl⟩:=ry; exact ne_int (z8 I q (congrArg not X5))
  | str j=>obtain ⟨t',rfl⟩:=ry; exact PySem.EqMixed.ne_int_str (z8 I q (by simp))
  | _=>exact absurd (show false = true from hs) Bool.false_ne_true
 | str i=>
  obtain ⟨t,rfl⟩:=rx
  cases y with
  | non=>cases ry; exact PySem.EqNone.ne_str_none (z8 I q (by simp))
  | bl j=>cases ry; exact PySem.EqMixed.ne_str_bool (z8 I q (by simp))
  | int j=>obtain ⟨t',rfl⟩:=ry; exact PySem.EqMixed.ne_str_int (z8 I q (by simp))
  | str j=>obtain ⟨t',rfl⟩:=ry; exact ne_str (z8 I q (congrArg not X6))
  | _=>exact absurd (show false = true from hs) Bool.false_ne_true
 | byt i=>
  obtain ⟨t,rfl⟩:=rx
  cases y with
  | byt j=>obtain ⟨t',rfl⟩:=ry; exact PySem.W.ne_bytes (z8 I q (congrArg not X7))
  | _=>exact absurd (show false = true from hs) Bool.false_ne_true
 | _=>cases y <;> exact absurd (show false = true from hs) Bool.false_ne_true
theorem zcp : OpR X (compareOp .LtE) (rI0 fun i j=>.bl (decide (i <= j))):=zc9 fun _ _ _ _ _ _ _ q=>le_int q
theorem zcq : OpR X (compareOp .Gt) (rI0 fun i j=>.bl (decide (j < i))):=zc9 fun _ _ _ _ _ _ _ q=>gt_int q
theorem X8 : OpR X (compareOp .In) (fun x y H Q=>∃ i j,x = .str i /\ y = .str j /\ Q (.bl (!(Builtin.Str.occurrences j i 0 j.length 1).isEmpty)) H):=by
 intro pins s σ H x y v u Q I rx ry h
 obtain ⟨i,j,rfl,rfl,q⟩:=h
 obtain ⟨t,rfl⟩:=rx
 obtain ⟨t',rfl⟩:=ry
 exact in_str (z8 I q rfl)
theorem OpR.or {f : Value->Value->Sem Value} {r r' : R2} (h : OpR X f r) (h' : OpR X f r') : OpR X f (fun x y H Q=>r x y H Q \/ r' x y H Q):=by
 intro pins s σ H x y v u Q I rx ry q
 rcases q with q | q
 ·exact h pins s σ H x y v u Q I rx ry q
 ·exact h' pins s σ H x y v u Q I rx ry q
theorem Tu (b : Expr) {op : CmpOp} (h : op ≠ .In:=by decide) (h2 : op ≠ .NotIn:=by decide) : behindInMarks op b = false:=by
 have e1 : (op == CmpOp.In) = false:=by cases op <;> first | rfl | exact absurd rfl h
 have e2 : (op == CmpOp.NotIn) = false:=by cases op <;> first | rfl | exact absurd rfl h2
 cases b <;> simp [behindInMarks,e1,e2]
theorem Qv {op : CmpOp} {r : R2} (ho : OpR X (compareOp op) r) (ha : PE X a ta) (hb : PE X b tb) (hm : behindInMarks op b = false) : PE X (.Compare a [op] [b] pos) (tOp r ta tb):=by
 intro pins s σ H Q I h
 exact wpAny_Compare1 (zck ha hb I h fun v u s2 x y H2 I2 rx ry q=>ho pins s2 σ H2 x y v u Q I2 rx ry q) hm
def zat (t : TE) : TT:=fun σ H Q=>t σ H fun x H'=>∃ k,x = .bl k /\ Q k H'
theorem Qw {op : CmpOp} {r : R2} (ho : OpR X (compareOp op) r) (ha : PE X a ta) (hb : PE X b tb) (hm : behindInMarks op b = false) : PT X (.Compare a [op] [b] pos) (zat (tOp r ta tb)):=by
 intro pins s σ H Q I h
 refine wpAny_isTrue_Compare1 (thn (ha pins s σ H _ I h) fun v s1 ⟨x,H1,I1,r1,q1⟩=>thn (hb pins s1 σ H1 _ I1 q1) fun u s2 ⟨y,H2,I2,r2,q2⟩=>
  thn (ho pins s2 σ H2 x y v u _ I2 r1 r2 q2) fun c s3 ⟨z,H3,I3,r3,k,e,q3⟩=>?_) hm
 subst e
 cases r3
 exact wpAny_truthy_bool ⟨H3,I3,q3⟩
def X9 (r r' : R2) (ta tb tc : TE) : TE:=fun σ H Q=>ta σ H fun x H1=>tb σ H1 fun y H2=>r x y H2 fun z H3=>∃ k,z = .bl k /\
 (if k = true then tc σ H3 fun w' H4=>r' y w' H4 Q else Q (.bl false) H3)
theorem Ul {op op' : CmpOp} {r r' : R2} (ho : OpR X (compareOp op) r) (ho' : OpR X (compareOp op') r') (ha : PE X a ta) (hb : PE X b tb) (hc : PE X c tc)
  (hm : lastMarks [op,op'] [b,c] = false:=by with_unfolding_all rfl) : PE X (.Compare a [op,op'] [b,c] pos) (X9 r r' ta tb tc):=by
 intro pins s σ H Q I h
 refine Compare_chain (thn (ha pins s σ H _ I h) fun v s1 ⟨x,H1,I1,r1,q1⟩=>chain_link (thn (hb pins s1 σ H1 _ I1 q1) fun u s2 ⟨y,H2,I2,r2,q2⟩=>
  thn (ho pins s2 σ H2 x y v u _ I2 r1 r2 q2) fun d s3 ⟨z,H3,I3,r3,k,e,q3⟩=>?_)) hm
 subst e
 cases r3
 refine wpAny_truthy_bool ?_
 cases k with
 | false=>exact ite_ff ⟨.bl false,H3,I3,rfl,q3⟩
 | true=>exact ite_tt (chain_last (thn (hc pins s3 σ H3 _ I3 q3) fun w' s4 ⟨z',H4,I4,r4,q4⟩=>ho' pins s4 σ H4 y z' u w' Q I4 r2 r4 q4))
theorem Um {op op' : CmpOp} {r r' : R2} (ho : OpR X (compareOp op) r) (ho' : OpR X (compareOp op') r') (ha : PE X a ta) (hb : PE X b tb) (hc : PE X c tc)
  (hm : lastMarks [op,op'] [b,c] = false:=by with_unfolding_all rfl) : PT X (.Compare a [op,op'] [b,c] pos) (zat (X9 r r' ta tb tc)):=by
 intro pins s σ H Q I h
 refine isTrue_chain (thn (ha pins s σ H _ I h) fun v s1 ⟨x,H1,I1,r1,q1⟩=>test_link (thn (hb pins s1 σ H1 _ I1 q1) fun u s2 ⟨y,H2,I2,r2,q2⟩=>
  thn (ho pins s2 σ H2 x y v u _ I2 r1 r2 q2) fun d s3 ⟨z,H3,I3,r3,k,e,q3⟩=>?_)) hm
 subst e
 cases r3
 refine wpAny_truthy_bool ?_
 cases k with
 | false=>
  obtain ⟨k',e',q'⟩:=q3
  cases e'
  exact ite_ff ⟨H3,I3,q'⟩
 | true=>
  refine ite_tt (test_last (thn (hc pins s3 σ H3 _ I3 q3) fun w' s4 ⟨z',H4,I4,r4,q4⟩=>thn (ho' pins s4 σ H4 y z' u w' _ I4 r2 r4 q4) fun d' s5 ⟨z2,H5,I5,r5,k2,e2,q5⟩=>?_))
  subst e2
  cases r5
  exact wpAny_truthy_bool ⟨H5,I5,q5⟩
theorem qa : (sizeLine : Nat) < 2 ^ 63:=by rw [sizeLine_eq]; decide
theorem Xe : OpR X (binaryOp .Add) (fun x y H Q=>∃ i j,x = .str i /\ y = .str j /\ i.length + j.length <= sizeLine /\ Q (.str (i++j)) H):=by
 intro pins s σ H x y v u Q I rx ry h
 obtain ⟨i,j,rfl,rfl,hz,q⟩:=h
 obtain ⟨t,rfl⟩:=rx
 obtain ⟨t',rfl⟩:=ry
 exact add_str (fun t' tk=>⟨.str (i++j),H,I.tok _,⟨_,rfl⟩,q⟩) hz
theorem uA {x : V} {us : List Value} (r : yn [x] us) : ∃ u,us = [u] /\ yp x u:=by
 cases r with
 | cons r1 r2=>cases r2; exact ⟨_,rfl,r1⟩
theorem Qx {x y : V} {us : List Value} (r : yn [x,y] us) : ∃ u w',us = [u,w'] /\ yp x u /\ yp y w':=by
 cases r with
 | cons r1 r2=>
  cases r2 with
  | cons r3 r4=>cases r4; exact ⟨_,_,rfl,r1,r3⟩
theorem Wa (hc : X.calm = true) : xp X (.builtin "max") (fun xs H Q=>∃ i j,xs = [.int i,.int j] /\ Q (.int (if j > i then j else i)) H):=by
 intro pins s σ H xs us Q I r h
 obtain ⟨i,j,rfl,q⟩:=h
 obtain ⟨u,w',rfl,⟨t,rfl⟩,⟨t',rfl⟩⟩:=Qx r
 refine max_two_ints (I.ok.hd hc) fun h' tk k=>⟨_,H,I.kept k,?_,q⟩
 by_cases hj : j > i
 ·rw [if_pos hj,if_pos hj]; exact ⟨_,rfl⟩
 ·rw [if_neg hj,if_neg hj]; exact ⟨_,rfl⟩
theorem Wb (hc : X.calm = true) : xp X (.builtin "min") (fun xs H Q=>∃ i j,xs = [.int i,.int j] /\ Q (.int (if j < i then j else i)) H):=by
 intro pins s σ H xs us Q I r h
 obtain ⟨i,j,rfl,q⟩:=h
 obtain ⟨u,w',rfl,⟨t,rfl⟩,⟨t',rfl⟩⟩:=Qx r
 refine min_two_ints (I.ok.hd hc) fun h' tk k=>⟨_,H,I.kept k,?_,q⟩
 by_cases hj : j < i
 ·rw [if_pos hj,if_pos hj]; exact ⟨_,rfl⟩
 ·rw [if_neg hj,if_neg hj]; exact ⟨_,rfl⟩
theorem Wc : xp X (.type "int") (fun xs H Q=>(∃ i,xs = [.int i] /\ Q (.int i) H) \/ ∃ k,xs = [.bl k] /\ Q (.int (if k then 1 else 0)) H):=by
 intro pins s σ H xs us Q I r h
 rcases h with ⟨i,rfl,q⟩ | ⟨k,rfl,q⟩
 ·obtain ⟨u,rfl,t,rfl⟩:=uA r
  exact call_int_int ⟨.int i,H,I,⟨_,rfl⟩,q⟩
 ·obtain ⟨u,rfl,r1⟩:=uA r
  cases r1
  exact call_int_bool ⟨.int (if k then 1 else 0),H,I.tok _,⟨_,rfl⟩,q⟩
end
structure ObjM (h : Heap) (x dx C : Addr) (mA : Str->Option Value) : Prop where
 obj : h.get? x = some (PySem.W.instObj C dx)
 ns : h.Ns1 dx mA
 ne : dx ≠ x
theorem Wd {h : Heap} {dx : Addr} {mA : Str->Option Value} (n : h.Ns1 dx mA) : ∃ od,h.get? dx = some od /\ ∀ name,PySem.W.lookIn name od = some (mA name):=by
 obtain ⟨o,es,ep,ho,hd,hk,_,hm⟩:=n
 refine ⟨o,ho,fun name=>?_⟩
 have e:=hm name
 unfold nsFind findBy at e
 rw [<- Array.find?_toList] at e
 unfold PySem.W.lookIn
 rw [hd]
 dsimp only
 split
 ·rename_i y q
  rw [q] at e
  exact congrArg some e
 ·rename_i q
  rw [q] at e
  have a : es.toList.any (·.refKey) = false:=by
   rw [List.any_eq_false]
   intro y hy
   obtain ⟨z,t,hkey⟩:=hk y (Array.mem_toList_iff.mp hy)
   simp [DictEntry.refKey,hkey]
  have a' : ¬ es.toList.any (·.refKey) = true:=by rw [a]; exact Bool.false_ne_true
  rw [if_neg a']
  exact congrArg some e
theorem ObjM.look {h : Heap} {x dx C : Addr} {mA : Str->Option Value} (I : ObjM h x dx C mA) : ∃ od,PySem.W.InstAt h x (PySem.W.instObj C dx) C (some od) /\ ∀ name,PySem.W.lookIn name od = some (mA name):=
 let ⟨od,ho,hl⟩:=Wd I.ns
 ⟨od,⟨I.obj,rfl,rfl,ho⟩,hl⟩
section
variable {prog : Program} {w : World} {A : Around} {E : Value->Shared->Prop} {s : Shared} {K : PySem.W.Frag} {x dx C f : Addr} {mA : Str->Option Value} {name : Str} {v : Value}
end
theorem Xb.some_of {v : V} {o : Option Value} (r : Xb (some v) o) : ∃ u,o = some u /\ yp v u:=by
 cases o with
 | none=>exact (show False from r).elim
 | some u=>exact ⟨u,rfl,r⟩
theorem Xb.none_of {o : Option Value} (r : Xb none o) : o = none:=by
 cases o with
 | none=>rfl
 | some u=>exact (show False from r).elim
section
variable {P : Program} {w : World} {H H' : Hp} {h h' : Heap} {a C dx : Addr} {fs fs' : List (Str × V)}
theorem Qy (hok : HOk P w H h) (e : H a = some (.ins C dx fs)) : ∃ mA,ObjM h a dx C mA /\ (∀ f,Xb (fs.lookup f) (mA f)) /\ PySem.Within mA (fs.map (·.1)) /\ fs.length <= 1000 /\ H dx = some (.own a):=by
 obtain ⟨d,z,ne,ob,mA,n,r,q⟩:=(show yR P w H h a (.ins C dx fs) from hok a _ e)
 exact ⟨mA,⟨ob,n,ne⟩,r,q,z,d⟩
end
structure Cls (K : PySem.W.Frag) (C : Addr) : Prop where
 pg : PySem.W.plainGet K C Str.empty = true
 hd : PySem.W.hasDictIn K C = true
 po : PySem.W.plainOver K C = true
 sa : PySem.W.findIn K (.ref C) "__setattr__" = some (some (.builtin "object.__setattr__"))
theorem Cls.get {K : PySem.W.Frag} {C : Addr} (c : Cls K C) (f : Str) : PySem.W.plainGet K C f = true:=c.pg
section
variable {X : Cx} {pins : List (Addr × Obj)} {σ : St} {H : Hp} {s : Shared} {a C dx : Addr} {fs : List (Str × V)} {f : Str} {v : V} {A : Around} {E : Value->Shared->Prop}
end
section
variable {X : Cx} {o e value : Expr} {f : Str} {pos pos' tpos : Pos} {ta tv : TE}
end
section
variable {X : Cx} {pins : List (Addr × Obj)} {σ : St} {H : Hp} {s : Shared} {A : Around} {E : Value->Shared->Prop} {Q : Value->Shared->Prop} {c : Value} {b : Bool}
inductive TyOf (K : PySem.W.Frag) (H : Hp) : V->Value->Prop where
 | non : TyOf K H .non (.type "NoneType")
 | bl (x : Bool) : TyOf K H (.bl x) (.type "bool")
 | int (i : Int) : TyOf K H (.int i) (.type "int")
 | str (x : Str) : TyOf K H (.str x) (.type "str")
 | flt (x : UInt64) : TyOf K H (.flt x) (.type "float")
 | lst {a : Addr} {xs : List V} (e : H a = some (.lst xs)) : TyOf K H (.ref a) (.type "list")
 | frz {a : Addr} {o : Obj} {xs : List V} (e : H a = some (.frz o (.lst xs))) : TyOf K H (.ref a) (.type "list")
 | tup {a : Addr} {xs : List V} (e : H a = some (.tup xs)) : TyOf K H (.ref a) (.type "tuple")
 | dK {a : Addr} {kvs : List (Key × V)} (e : H a = some (.dK kvs)) : TyOf K H (.ref a) (.type "dict")
 | dT {a : Addr} {kvs : List (List Key × V)} (e : H a = some (.dT kvs)) : TyOf K H (.ref a) (.type "dict")
 | ins {a C dx : Addr} {fs : List (Str × V)} (e : H a = some (.ins C dx fs)) (cl : Cls K C) (ha : PySem.W.findIn K (.ref C) "__class__" = some (some (.builtin "object.__class__")))
   (hn : PySem.W.specialIn K (.builtin "object.__class__") "__get__" = some (some (.builtin "getset_descriptor.__get__"))) (htk : PySem.W.takesIn K (.builtin "object.__class__") = some true)
   (hm : PySem.W.mroIn K C (.type "object") = some true) : TyOf K H (.ref a) (.ref C)
theorem wX {x : V} {u t : Value} (I : Inv X pins σ H s) (rx : yp x u) (ty : TyOf X.K H x t) (e : PySem.W.kitOne X.K t c = some b) (h : ∀ tk,Q (.bool b) { s with toks:=tk }) :
  wpAny (model X.prog X.w) A (call (.builtin "isinstance") [u,c]) Q E s:=by
 cases ty with
 | non=>cases (show u = Value.none from rx); exact PySem.W.kia_one PySem.W.kitx_none I.kIn True.intro e (fun z=>nomatch z) h
 | bl y=>cases (show u = Value.bool y from rx); exact PySem.W.kia_one PySem.W.kitx_bool I.kIn True.intro e (fun z=>nomatch z) h
 | int i=>obtain ⟨t,q⟩:=(show ∃ t,u = Value.int i t from rx); cases q; exact PySem.W.kia_one PySem.W.kitx_int I.kIn True.intro e (fun z=>nomatch z) h
 | str y=>obtain ⟨t,q⟩:=(show ∃ t,u = Value.str y t from rx); cases q; exact PySem.W.kia_one PySem.W.kitx_str I.kIn True.intro e (fun z=>nomatch z) h
 | flt y=>obtain ⟨t,q⟩:=(show ∃ t,u = Value.float y t from rx); cases q; exact PySem.W.kia_one PySem.W.kitx_float I.kIn True.intro e (fun z=>nomatch z) h
 | @lst a xs ea=>
  cases (show u = Value.ref a from rx)
  obtain ⟨_,_,n,_,h1⟩:=(show yR X.prog X.w H s.heap a (.lst xs) from I.hok a _ ea)
  exact PySem.W.kia_one PySem.W.kitx_list I.kIn ⟨_,h1,rfl⟩ e (fun z=>nomatch z) h
 | @frz a ob xs ea=>
  cases (show u = Value.ref a from rx)
  obtain ⟨_,_,_,n,_,h1⟩:=(show yR X.prog X.w H s.heap a (.frz ob (.lst xs)) from I.hok a _ ea)
  exact PySem.W.kia_one PySem.W.kitx_list I.kIn ⟨_,h1,rfl⟩ e (fun z=>nomatch z) h
 | @tup a xs ea=>
  cases (show u = Value.ref a from rx)
  obtain ⟨_,_,_,p⟩:=(show yR X.prog X.w H s.heap a (.tup xs) from I.hok a _ ea)
  obtain ⟨o,h1,h2,_⟩:=p
  exact PySem.W.kia_one PySem.W.kitx_tuple I.kIn ⟨o,h1,h2⟩ e (fun z=>nomatch z) h
 | @dK a kvs ea=>
  cases (show u = Value.ref a from rx)
  obtain ⟨_,_,vs,_,p⟩:=(show yR X.prog X.w H s.heap a (.dK kvs) from I.hok a _ ea)
  obtain ⟨o,es,ep,h1,h2,_⟩:=p
  exact PySem.W.kia_one PySem.W.kitx_dict I.kIn ⟨o,h1,h2.1⟩ e (fun z=>nomatch z) h
 | @dT a kvs ea=>
  cases (show u = Value.ref a from rx)
  obtain ⟨_,_,xs,_,o,es,ep,h1,h2,_⟩:=(show yR X.prog X.w H s.heap a (.dT kvs) from I.hok a _ ea)
  exact PySem.W.kia_one PySem.W.kitx_dict I.kIn ⟨o,h1,h2.1⟩ e (fun z=>nomatch z) h
 | @ins a C dx fs ea cl ha hn htk hm=>
  cases (show u = Value.ref a from rx)
  obtain ⟨mA,O,_⟩:=Qy I.hok ea
  obtain ⟨od,J,_⟩:=O.look
  exact PySem.W.kia_one (PySem.W.kitx_own (cl.get _) cl.hd ha hn htk hm) I.kIn J e (fun z=>nomatch z) h
end
structure Room (k : Nat) (A : Around) : Prop where
 hd : A.handled = none
 dp : A.depth + 3 * k + 5 < recursionLimit
 un : A.units + 16 * k + 200 < cLine
theorem Room.mono {j k : Nat} {A : Around} (r : Room k A) (h : j <= k) : Room j A:=⟨r.hd,by have:=r.dp; omega,by have:=r.un; omega⟩
theorem Room.deeper {k : Nat} {A : Around} (r : Room (k + 1) A) (env : Env) : Room k (A.deeper env):=
 ⟨r.hd,by have:=r.dp; show A.depth + 1 + 3 * k + 5 < _; omega,by have:=r.un; show A.units + 3 + 16 * k + 200 < _; omega⟩
theorem Room.depth {k : Nat} {A : Around} (r : Room k A) : A.depth < recursionLimit:=by have:=r.dp; omega
def tNil : TA:=fun _ H Q=>Q [] H
def qO (ta : TE) (tr : TA) : TA:=fun σ H Q=>ta σ H fun x H1=>tr σ H1 fun xs H2=>Q (x::xs) H2
section
variable {X : Cx} {e : Expr} {es : List Expr} {te : TE} {t : TA} {pos : Pos}
theorem yJ : PA X [] tNil:=fun _ _ _ _ H Q I h=>Calls.spliced_nil ⟨[],H,I,.nil,h⟩
theorem ya (ha : PE X e te) (hr : PA X es t) (hs : starEach (e::es) X.env = (false,eval e X.env)::starEach es X.env:=by rfl) : PA X (e::es) (qO te t):=by
 intro pos pins s σ H Q I h
 rw [hs]
 show wpAny _ _ (spliced ((false,eval e X.env)::backTo pos (starEach es X.env))) _ _ s
 refine Calls.spliced_cons (thn (ha pins s σ H _ I h) fun u s1 ⟨x,H1,I1,r1,q1⟩=>?_)
 exact thn (hr pos pins s1 σ H1 _ I1 q1) fun us s2 ⟨xs,H2,I2,r2,q2⟩=>⟨x::xs,H2,I2,.cons r1 r2,q2⟩
def zdx (t : TA) : TE:=fun σ H Q=>t σ H fun xs H1=>xs.length <= sizeLine /\ ∀ p,H1 p = none->Q (.ref p) (upd H1 p (.tup xs))
def zdy (t : TA) : TE:=fun σ H Q=>t σ H fun xs H1=>xs.length <= sizeLine /\ ∀ p,H1 p = none->Q (.ref p) (upd H1 p (.lst xs))
theorem Tv {x1} (h : PA X es t) : PE X (.Tuple es x1 pos) (zdx t):=by
 intro pins s σ H Q I hq
 refine wpAny_Tuple_spliced (thn (h pos pins s σ H _ I hq) fun us s1 ⟨xs,H1,I1,r,z,q⟩=>⟨by rw [<- r.length]; exact z,?_⟩)
 have hf : H1 s1.heap.objs.size = none:=I1.hok.fresh (Nat.le_refl _)
 refine ⟨.ref s1.heap.objs.size,upd H1 s1.heap.objs.size (.tup xs),I1.laid (t':=s1.toks) (fun b u e=>Heap.get?_push_of_some _ e) (Nat.le_refl _) ?_,rfl,q _ hf⟩
 exact ⟨z,us,r,⟨_,Heap.get?_push_size _ rfl,rfl,_,rfl⟩⟩
theorem zau (h : PA X es t) : PE X (.List es pos) (zdy t):=by
 intro pins s σ H Q I hq
 refine wpAny_List_spliced (thn (h pos pins s σ H _ I hq) fun us s1 ⟨xs,H1,I1,r,z,q⟩=>⟨by rw [<- r.length]; exact z,?_⟩)
 have hf : H1 s1.heap.objs.size = none:=I1.hok.fresh (Nat.le_refl _)
 refine ⟨.ref s1.heap.objs.size,upd H1 s1.heap.objs.size (.lst xs),I1.laid (t':=s1.toks) (fun b u e=>Heap.get?_push_of_some _ e) (Nat.le_refl _) ?_,rfl,q _ hf⟩
 exact ⟨z,us,0,r,Heap.get?_push_size _ rfl⟩
end
abbrev Sp:=List V->Hp->VK->XK->Prop
abbrev CXT:=List Env->Hp->Shared->XK->Value->Shared->Prop
structure Env0 (P : Program) (w : World) (K : PySem.W.Frag) (mg : Str->Option Value) (base : Heap) (A : Around) (outer : List Env) (s : Shared) (H : Hp) : Prop where
 frames : A.frames = some outer
 mod : Mod K mg base
 bs : ∀ b o,base.get? b = some o->s.heap.get? b = some o /\ H b = none
 bsz : base.objs.size <= s.heap.objs.size
 funs : s.heap.FunFrames base outer
 frf : ∀ b ∈ frs outer,H b = none
 hok : HOk P w H s.heap
 bare : AllBare s.gens
def CE (outer : List Env) (P : Program) (w : World) (H : Hp) (s : Shared) (Q : VK) (u : Value) (s' : Shared) : Prop:=
 ∃ v H',s'.os = s.os /\ AllBare s'.gens /\ Un (frs outer) [] H H' s.heap s'.heap /\ HOk P w H' s'.heap /\ yp v u /\ Q v H'
def CR (CX : CXT) (outer : List Env) (P : Program) (w : World) (H : Hp) (s : Shared) (Q : VK) (E : XK) (r : Result) (s' : Shared) : Prop:=
 match r with
 | .ok (.ret u)=>CE outer P w H s Q u s'
 | .ok _=>False
 | .error e=>CX outer H s E e s'
structure FnOk (P : Program) (w : World) (K : PySem.W.Frag) (mg : Str->Option Value) (base : Heap) (CX : CXT) (k : Nat) (f : Addr) (fd : FuncData) (ps : List Str) (sp : Sp) : Prop where
 len : ∀ vs H Q E,sp vs H Q E->vs.length = ps.length
 run : ∀ (A : Around) (outer : List Env) (s : Shared) (H : Hp) (args : Args) (us : List Value) (vs : List V) (Q : VK) (E : XK),Room k A->Env0 P w K mg base A outer s H->BindsTo s fd args (ps.zip us)->yn vs us->sp vs H Q E->
  codeAny (model P w) A (.call (.ref f) args) (CR CX outer P w H s Q E) s
section
variable {X : Cx} {pins : List (Addr × Obj)} {σ : St} {H : Hp} {s s' : Shared}
theorem Inv.env0 (I : Inv X pins σ H s) : Env0 X.prog X.w X.K X.mg X.base X.A X.stack s H:=
 ⟨I.ok.frames,I.ok.mod,I.bs,Nat.le_trans I.ok.bsz I.sz,I.stack,I.stkFree,I.hok,I.bare⟩
theorem Inv.after {Q : VK} {u : Value} (I : Inv X pins σ H s) (h : CE X.stack X.prog X.w H s Q u s') : EP X pins σ Q u s':=by
 obtain ⟨v,H',os,bare,un,hok,r,q⟩:=h
 obtain ⟨hh,g,d,t,os'⟩:=s'
 obtain rfl : os' = s.os:=os
 exact ⟨v,H',I.call (h':=hh) (g':=g) (d':=d) (t':=t) (ch:=[]) un hok bare (fun b z=>absurd z (by simp)),r,q⟩
end
def zcr (sp : Sp) (dvs : List V) (E : XK) (t : TA) : TE:=fun σ H Q=>t σ H fun vs H1=>sp (vs++dvs) H1 Q E
def Zx (K : PySem.W.Frag) (fd : FuncData) (ps : List Str) (ds : List Value) : Prop:=
 ∀ (s : Shared) (us : List Value),K.In s.heap->(us++ds).length = ps.length->BindsTo s fd ⟨us,[]⟩ (ps.zip (us++ds))
theorem Zx.all {K : PySem.W.Frag} {fd : FuncData} {ps : List Str} (h : ∀ us : List Value,us.length = ps.length->bindArgs fd ⟨us,[]⟩ = pure (ps.zip us)) : Zx K fd ps []:=fun s us _ hl=>by
 rw [List.append_nil] at hl ⊢
 exact .of_eq (h us hl)
def Wf (CX : CXT) (X : Cx) (E : XK) : Prop:=∀ (pins : List (Addr × Obj)) (σ : St) (H : Hp) (s : Shared) (e : Value) (s' : Shared),Inv X pins σ H s->CX X.stack H s E e s'->X.xe e s'
section
variable {X : Cx} {CX : CXT} {k : Nat} {f C : Addr} {fd : FuncData} {ps : List Str} {sp : Sp} {dvs : List V} {ds : List Value} {E : XK} {x m : Str} {p pos apos : Pos} {e o : Expr} {es : List Expr} {ta : TE} {t : TA}
theorem zav {pins : List (Addr × Obj)} {σ : St} {H : Hp} {s : Shared} {Q : VK} {us : List Value} {vs : List V} (F : FnOk X.prog X.w X.K X.mg X.base CX k f fd ps sp) (hr : Room k X.A) (hb : Zx X.K fd ps ds) (hd : yn dvs ds) (hx : Wf CX X E)
  (I : Inv X pins σ H s) (r : yn vs us) (h : sp (vs++dvs) H Q E) : wpAny (model X.prog X.w) X.A (call (.ref f) us) (EP X pins σ Q) X.xe s:=by
 have r2 : yn (vs++dvs) (us++ds):=r.append hd
 have hl : (us++ds).length = ps.length:=by rw [<- r2.length]; exact F.len _ _ _ _ h
 refine wpAny_call (codeAny_mono (F.run X.A X.stack s H ⟨us,[]⟩ (us++ds) (vs++dvs) Q E hr I.env0 (hb s us I.kIn hl) r2 h) fun r s' hq=>?_)
 cases r with
 | error e=>exact hx pins σ H s e s' I hq
 | ok fl=>
  cases fl with
  | ret u=>exact I.after hq
  | next=>exact False.elim hq
  | brk=>exact False.elim hq
  | cont=>exact False.elim hq
theorem Zy (F : FnOk X.prog X.w X.K X.mg X.base CX k f fd ps sp) (hr : Room k X.A) (hg : Gl X x) (hm : X.mg x = some (.ref f)) (hk : PySem.W.keepIn X.K (.ref f) = true) (hb : Zx X.K fd ps ds) (hd : yn dvs ds) (hx : Wf CX X E)
  (ha : PA X (e::es) t) (hdb : (x == ("__debug__" : Str)) = false:=by decide) (he : starEach (e::es) X.env = (false,eval e X.env)::starEach es X.env:=by rfl) (hpl : (backTo pos (starEach es X.env)).any (·.1) = false:=by rfl) :
  PE X (.Call (.Name x p) (e::es) [] pos) (zcr sp dvs E t):=by
 intro pins s σ H Q I h
 refine wpAny_Call_Name_kw (Zw I hg hm ?_ hdb)
 refine PySem.W.callWith_K (h₀:=X.base) I.ok.mod.kin hk (thn (ha pos pins s σ H _ I h) fun us s1 ⟨vs,H1,I1,r,q⟩=>⟨I1.kIn,?_⟩) he hpl
 exact zav F hr hb hd hx I1 r q
end
section
variable {X : Cx} {CX : CXT} {k : Nat} {f C : Addr} {fd : FuncData} {ps ks : List Str} {sp : Sp} {E : XK} {x m : Str} {p pos apos kpos : Pos} {e o : Expr} {es : List Expr} {kws : List Keyword} {te ta : TE} {t tk : TA} {nm : Option Str}
variable {g : List Value->List Value->List Value} {gV : List V->List V->List V}
end
structure FnScope (N P : List Str) (sc : Scope) : Prop where
 kind : sc.kind = .function
 co : sc.isCoroutine = false
 gen : sc.isGenerator = false
 nd : N.Nodup
 pre : N.take P.length = P
 par : ∀ x ∈ P,sc.names.lookup x = some .local \/ sc.names.lookup x = some .cell
 nofree : ∀ y ∈ sc.names,y.2 ≠ .free
theorem jM {kindOf : Str->Option NameKind} {x : Str} : ∀ {binds : List (Str × Value)} {m : Str->Option Value},(∀ v,(x,v) ∉ binds)->bindL kindOf binds m x = m x
 | [],_,_=>rfl
 | (n,v)::r,m,h=>by
  unfold bindL
  rw [jM fun w hw=>h w (List.mem_cons_of_mem _ hw)]
  split
  ·have : x ≠ n:=by rintro rfl; exact h v List.mem_cons_self
   simp [this]
  ·rfl
theorem jN {kindOf : Str->Option NameKind} {x : Str} : ∀ {binds : List (Str × Value)} {m : Str->Option Value},(∀ v,(x,v) ∉ binds)->bindC kindOf binds m x = m x
 | [],_,_=>rfl
 | (n,v)::r,m,h=>by
  unfold bindC
  rw [jN fun w hw=>h w (List.mem_cons_of_mem _ hw)]
  split
  ·rfl
  ·have : x ≠ n:=by rintro rfl; exact h v List.mem_cons_self
   simp [this]
theorem jO {kindOf : Str->Option NameKind} {x : Str} {v : Value} : ∀ {P : List Str} {vs : List Value} {i : Nat} {m : Str->Option Value},P.Nodup->P[i]? = some x->vs[i]? = some v->kindOf x = some .local->
  bindL kindOf (P.zip vs) m x = some v
 | [],_,_,_,_,h,_,_=>by simp at h
 | _::_,[],_,_,_,_,h,_=>by simp at h
 | p::P,w::vs,0,m,nd,h1,h2,hk=>by
  simp at h1 h2; subst h1; subst h2
  show bindL kindOf ((p,w)::P.zip vs) m p = _
  unfold bindL
  rw [jM fun v hv=>(List.nodup_cons.mp nd).1 (List.of_mem_zip hv).1,if_pos hk]
  simp
 | p::P,w::vs,i + 1,m,nd,h1,h2,hk=>by
  show bindL kindOf ((p,w)::P.zip vs) m x = _
  unfold bindL
  exact jO (i:=i) (List.nodup_cons.mp nd).2 (by simpa using h1) (by simpa using h2) hk
theorem jP {kindOf : Str->Option NameKind} {x : Str} {v : Value} : ∀ {P : List Str} {vs : List Value} {i : Nat} {m : Str->Option Value},P.Nodup->P[i]? = some x->vs[i]? = some v->kindOf x ≠ some .local->
  bindC kindOf (P.zip vs) m x = some v
 | [],_,_,_,_,h,_,_=>by simp at h
 | _::_,[],_,_,_,_,h,_=>by simp at h
 | p::P,w::vs,0,m,nd,h1,h2,hk=>by
  simp at h1 h2; subst h1; subst h2
  show bindC kindOf ((p,w)::P.zip vs) m p = _
  unfold bindC
  rw [jN fun v hv=>(List.nodup_cons.mp nd).1 (List.of_mem_zip hv).1,if_neg hk]
  simp
 | p::P,w::vs,i + 1,m,nd,h1,h2,hk=>by
  show bindC kindOf ((p,w)::P.zip vs) m x = _
  unfold bindC
  exact jP (i:=i) (List.nodup_cons.mp nd).2 (by simpa using h1) (by simpa using h2) hk
def vH (N : List Str) (vs : List V) : St:=vs.map some++List.replicate (N.length - vs.length) none
def Qz (CX : CXT) (P : Program) (w : World) (K : PySem.W.Frag) (mg : Str->Option Value) (base : Heap) (N : List Str) (qual : Str) (scope : Scope) (f : Addr) (cd : Value) (A : Around) (outer : List Env) (s : Shared) (H : Hp) (E : XK) : Cx where
 prog:=P
 w:=w
 K:=K
 mg:=mg
 base:=base
 A:=A.deeper (envOfC qual scope s.heap.objs.size f cd)
 N:=N
 s₀:=s
 H₀:=H
 env:=envOfC qual scope s.heap.objs.size f cd
 outer:=outer
 stack:=envOfC qual scope s.heap.objs.size f cd::outer
 ex:=[]
 calm:=true
 fn:=fun _=>true
 pn:=[]
 xe:=fun e s'=>wpAny (model P w) (A.deeper (envOfC qual scope s.heap.objs.size f cd)) (leaving (envOfC qual scope s.heap.objs.size f cd) e) (fun _ s''=>CX outer H s E e s'') (fun e' s''=>CX outer H s E e' s'') s'
theorem uI {sc : Scope} {n : Nat} {x : Str} (h : sc.names.lookup x = some .cell) : ∃ c,(cellsFrom n sc.names []).lookup x = some c:=by
 have q:=PySem.W.cellsFrom_some sc.names n [] (.inl h)
 exact Option.isSome_iff_exists.mp q
theorem Wg {CX : CXT} {P : Program} {w : World} {K : PySem.W.Frag} {mg : Str->Option Value} {base : Heap} {N ps : List Str} {qual : Str} {scope : Scope} {f : Addr} {cd : Value} {A : Around} {outer : List Env} {s s1 : Shared} {H : Hp} {E : XK} {us : List Value} {vs : List V}
  (S : FnScope N ps scope) (hd : A.handled = none) (e0 : Env0 P w K mg base A outer s H) (hl : vs.length = ps.length) (r : yn vs us)
  (x : InCallC s s.heap.objs.size (bindL (envOfC qual scope s.heap.objs.size f cd).kindOf (ps.zip us) fun _=>none) (cellsFrom (s.heap.objs.size + 1) scope.names []) (bindC (envOfC qual scope s.heap.objs.size f cd).kindOf (ps.zip us) fun _=>none) s1) :
  Inv (Qz CX P w K mg base N qual scope f cd A outer s H E) [] (vH N vs) H s1:=by
 have hpl : ps.length <= N.length:=by have:=congrArg List.length S.pre; rw [List.length_take] at this; omega
 obtain ⟨h1,tk,rfl,hk⟩:=x.done
 have noA : ∀ b : Addr,b ∉ (Qz CX P w K mg base N qual scope f cd A outer s H E).ex:=fun b z=>absurd (show b ∈ ([] : List Addr) from z) (by simp)
 refine ⟨⟨e0.mod,S.kind,rfl,rfl,Nat.le_refl _,fun y z c h1 h2=>?_,fun y hy=>?_,fun y c _ h=>?_,fun _=>hd,Around.frames_deeper e0.frames,.inr ⟨rfl,rfl⟩,fun b z=>absurd z (noA b),e0.bs,e0.bsz,fun b _ _=>noA b,fun b z=>absurd z (noA b),e0.funs,e0.frf⟩,
  rfl,e0.bare,Un.kept hk,⟨_,x.toInCall.ns,fun i y v h1 h2 h3=>?_⟩,fun y c h=>⟨_,x.cell y c h⟩,e0.hok.fresh (Nat.le_refl _),fun y c h=>?_,fun p hp=>absurd (show p ∈ ([] : List (Addr × Obj)) from hp) (by simp),e0.hok.kept hk,?_⟩
 ·exact name_of_addr x.apart (PySem.mem_of_lookup h1) (PySem.mem_of_lookup h2)
 ·have hy : scope.names.lookup y = some .cell \/ scope.names.lookup y = some .free:=hy
  rcases hy with hy | hy
  ·exact uI hy
  ·exact absurd rfl (S.nofree _ (PySem.mem_of_lookup hy))
 ·exact Nat.le_of_lt (x.above y c (PySem.mem_of_lookup h))
 ·have hi : i < vs.length:=by
   unfold vH at h2
   by_cases hi : i < vs.length
   ·exact hi
   ·rw [List.getElem?_append_right (by simpa using hi)] at h2
    rw [List.getElem?_replicate] at h2
    split at h2 <;> cases h2
  have ha : vs[i]? = some v:=by
   unfold vH at h2
   rw [List.getElem?_append_left (by simpa using hi),List.getElem?_map] at h2
   cases e : vs[i]? with
   | none=>rw [e] at h2; cases h2
   | some a=>rw [e] at h2; cases h2; rfl
  obtain ⟨u,hu,rv⟩:=r.get ha
  have hp : ps[i]? = some y:=by
   rw [<- S.pre,List.getElem?_take_of_lt (by omega)]; exact h1
  have ndP : ps.Nodup:=by rw [<- S.pre]; exact S.nd.sublist (List.take_sublist _ _)
  refine ⟨u,rv,?_⟩
  rcases S.par y (List.mem_of_getElem? hp) with k | k
  ·exact .inl ⟨k,jO ndP hp hu k⟩
  ·obtain ⟨c,e⟩:=uI (n:=s.heap.objs.size + 1) k
   refine .inr ⟨.inl k,c,e,?_⟩
   have q:=x.cell y c e
   rw [jP ndP hp hu (by show scope.names.lookup y ≠ _; rw [k]; decide)] at q
   exact q
 ·exact e0.hok.fresh (Nat.le_of_lt (x.above y c (PySem.mem_of_lookup h)))
 ·unfold vH
  show _ = N.length
  rw [List.length_append,List.length_map,List.length_replicate]
  omega
theorem zcs {CX : CXT} {P : Program} {w : World} {K : PySem.W.Frag} {mg : Str->Option Value} {base : Heap} {k : Nat} {f : Addr} {name qual : Str} {params : Arguments} {body : List Stmt} {scope : Scope} {dV kV doc pm cdv ct oc : Value} {an od : Option Addr}
  {osl : Array (Option Value)} {N ps : List Str} {sp : Sp} (lk : K.lookup f = some ⟨oc,od,.func (PySem.W.fnOf name qual params body scope dV kV doc pm an cdv ct),osl⟩) (hcd : PySem.W.codeIn K cdv qual = true) (S : FnScope N ps scope)
  (len : ∀ vs H Q E,sp vs H Q E->vs.length = ps.length)
  (hbody : ∀ (A : Around) (outer : List Env) (s : Shared) (H : Hp) (vs : List V) (Q : VK) (E : XK),Room k (A.deeper (envOfC qual scope s.heap.objs.size f cdv))->sp vs H Q E->
   ∃ t,PSs (Qz CX P w K mg base N qual scope f cdv A outer s H E) body t /\ t { nx:=fun _ H'=>Q .non H',rt:=Q } (vH N vs) H) :
  FnOk P w K mg base CX (k + 1) f (PySem.W.fnOf name qual params body scope dV kV doc pm an cdv ct) ps sp:=by
 refine ⟨len,fun A outer s H args us vs Q E hr e0 hb r hsp=>?_⟩
 have hl:=len _ _ _ _ hsp
 have KX : K.In s.heap:=e0.mod.kin.keeps fun b o e=>(e0.bs b o e).1
 have lim : s.heap.NoLimit:=e0.mod.nolimit.keeps fun b o e=>(e0.bs b o e).1
 have hkind : ∀ y ∈ ps.zip us,scope.names.lookup y.1 = some .local \/ (scope.names.lookup y.1 = some .cell /\ ((cellsFrom (s.heap.objs.size + 1) scope.names []).lookup y.1).isSome = true):=fun ⟨n,v⟩ hy=>by
  rcases S.par n (List.of_mem_zip hy).1 with q | q
  ·exact .inl q
  ·exact .inr ⟨q,PySem.W.cellsFrom_some _ _ _ (.inl q)⟩
 refine codeAny_call_function hr.depth (KX _ _ lk) rfl S.co S.gen rfl (PySem.W.codeRec_of KX hcd) (hb _ _ _ _ ?_)
 refine wpAny_newFunctionEnv_cells S.kind hkind fun env he s1 x=>?_
 subst he
 refine ⟨lim.keeps x.toInCall.keep,codeAny_func ?_⟩
 obtain ⟨t,ht,hq⟩:=hbody A outer s H vs Q E (hr.deeper _) hsp
 have I : Inv (Qz CX P w K mg base N qual scope f cdv A outer s H E) [] (vH N vs) H s1:=Wg S hr.hd e0 hl r x
 refine wpAny_mono (ht [] s1 (vH N vs) H _ I hq) (fun fl s' hs=>?_) fun e s' hs=>hs
 have fin : ∀ {σ' : St} {H' : Hp} {v : V} {u : Value},Inv (Qz CX P w K mg base N qual scope f cdv A outer s H E) [] σ' H' s'->yp v u->Q v H'->CE outer P w H s Q u s':=
  fun {σ' H' v u} J rv q=>⟨v,H',J.os,J.bare,J.base,J.hok,rv,q⟩
 cases fl with
 | ret u=>
  obtain ⟨v,σ',H',J,rv,q⟩:=hs
  exact fin J rv q
 | next=>
  obtain ⟨σ',H',J,q⟩:=hs
  exact fin (v:=V.non) (u:=Value.none) J rfl q
 | brk=>
  obtain ⟨_,_,_,q⟩:=hs
  exact False.elim q
 | cont=>
  obtain ⟨_,_,_,q⟩:=hs
  exact False.elim q
section
variable {X : Cx} {x : Str} {p pos : Pos} {e : Expr} {es : List Expr} {t : TA} {id T : String} {r : List V->Hp->VK->Prop}
def tCB (r : List V->Hp->VK->Prop) (t : TA) : TE:=fun σ H Q=>t σ H fun vs H1=>r vs H1 Q
theorem qP (hc : xp X (.builtin id) r) (hg : Gl X x) (hm : X.mg x = none) (hv : bootBuiltins x = some (.builtin id)) (ha : PA X (e::es) t) (hn : x ≠ "__name__":=by decide) (hdb : (x == ("__debug__" : Str)) = false:=by decide)
  (he : starEach (e::es) X.env = (false,eval e X.env)::starEach es X.env:=by rfl) (hpl : (backTo pos (starEach es X.env)).any (·.1) = false:=by rfl) : PE X (.Call (.Name x p) (e::es) [] pos) (tCB r t):=by
 intro pins s σ H Q I h
 refine wpAny_Call_Name_kw (jJ I hg hm hv ?_ hn hdb)
 exact PyProof.Rows.callWith_builtin1 (thn (ha pos pins s σ H _ I h) fun us s1 ⟨vs,H1,I1,r1,q1⟩=>hc pins s1 σ H1 vs us Q I1 r1 q1) he hpl
theorem uU (hc : xp X (.type T) r) (hg : Gl X x) (hm : X.mg x = none) (hv : bootBuiltins x = some (.type T)) (ha : PA X (e::es) t) (hn : x ≠ "__name__":=by decide) (hdb : (x == ("__debug__" : Str)) = false:=by decide)
  (he : starEach (e::es) X.env = (false,eval e X.env)::starEach es X.env:=by rfl) (hpl : (backTo pos (starEach es X.env)).any (·.1) = false:=by rfl) : PE X (.Call (.Name x p) (e::es) [] pos) (tCB r t):=by
 intro pins s σ H Q I h
 refine wpAny_Call_Name_kw (jJ I hg hm hv ?_ hn hdb)
 exact PyProof.Rows.callWith_type1 (thn (ha pos pins s σ H _ I h) fun us s1 ⟨vs,H1,I1,r1,q1⟩=>hc pins s1 σ H1 vs us Q I1 r1 q1) he hpl
end
end L2
namespace HT
open PySem PyProof.Rows
section
open PySem.SeqAt
open PySem.AutoSeq1 (wpAny_loadPart')
open PySem.MeetsSeq PySem.MeetsSeq2 PySem.MeetsSeq3
end
section
variable {prog : Program} {w : World} {A : Around} {E : Value->Shared->Prop} {s : Shared}
theorem cat_tup {t b : Addr} {vs ws : List Value} {Q : Value->Shared->Prop} (ht : IsTup s.heap t vs.toArray) (hb : IsTup s.heap b ws.toArray) (hv : vs ≠ [])
  (h1 : ws = []->Q (.ref t) s) (h2 : ws ≠ []->Q (.ref s.heap.objs.size) { s with heap:=s.heap.push { cls:=.type "tuple",data:=.seq (vs++ws).toArray } })
  (hsz : vs.length + ws.length <= sizeLine) : wpAny (model prog w) A (binaryOp .Add (.ref t) (.ref b)) Q E s:=by
 obtain ⟨⟨cls,dd,data,sl⟩,ho,hc,n,hd⟩:=id ht
 obtain ⟨⟨cls2,dd2,data2,sl2⟩,ho2,hc2,n2,hd2⟩:=id hb
 simp only at hc hd hc2 hd2
 subst hc hd hc2 hd2
 have e : vs.toArray++ws.toArray = (vs++ws).toArray:=by simp
 by_cases hw : ws = []
 ·exact concat_meets ⟨_,ho,rfl⟩ ⟨_,ho2,rfl⟩ noFill_tuple_add seq_tuple_add PySem.F.slot_tuple_add PySem.F.entry_tuple_add (PySem.F.args_tuple_add_2 _ _)
   (tuple_addW1 t b vs.toArray ws.toArray n n2 dd dd2 sl sl2 (by simpa using hv) (by simp [hw])) ⟨ho,ho2,h1 hw⟩
 ·refine concat_meets ⟨_,ho,rfl⟩ ⟨_,ho2,rfl⟩ noFill_tuple_add seq_tuple_add PySem.F.slot_tuple_add PySem.F.entry_tuple_add (PySem.F.args_tuple_add_2 _ _)
   (tuple_addW2 t b vs.toArray ws.toArray n n2 dd dd2 sl sl2 (by simpa using hv) (by simpa using hw) (by rw [List.size_toArray,List.size_toArray]; exact hsz)) ⟨ho,ho2,?_⟩
  rw [e]
  exact h2 hw
def sIx (n d : Nat) : Option Int->Nat
 | none=>d
 | some v=>if v < 0 then (v + (n : Int)).toNat else min v.toNat n
theorem zaw (n d : Nat) (hd : d <= n) (o : Option Int) : sIx n d o <= n:=by
 cases o with
 | none=>exact hd
 | some v=>
  show (if v < 0 then (v + (n : Int)).toNat else min v.toNat n) <= n
  by_cases hv : v < 0
  ·rw [if_pos hv]; omega
  ·rw [if_neg hv]; exact Nat.min_le_right _ _
theorem Wh (v : Int) (n d : Nat) : (if v < 0 then max (v + (n : Int)) 0 else min v (n : Int)) = ((sIx n d (some v) : Nat) : Int):=by
 show (if v < 0 then max (v + (n : Int)) 0 else min v (n : Int)) = (((if v < 0 then (v + (n : Int)).toNat else min v.toNat n) : Nat) : Int)
 by_cases hv : v < 0
 ·simp only [if_pos hv]; omega
 ·simp only [if_neg hv]; omega
theorem Xf (lo hi : Option Int) (n : Nat) : Builtin.Slice.sliceAdjust lo hi 1 (n : Int) = (((sIx n 0 lo : Nat) : Int),((sIx n n hi : Nat) : Int)):=by
 have h1 : ¬ ((1 : Int) < 0):=by omega
 unfold Builtin.Slice.sliceAdjust
 simp only [h1,if_false]
 refine Prod.ext ?_ ?_
 ·cases lo with
  | none=>rfl
  | some v=>exact Wh v n 0
 ·cases hi with
  | none=>rfl
  | some v=>exact Wh v n n
theorem Xg (i j : Nat) : Builtin.Slice.slicePlaces (i : Int) (j : Int) 1 = j - i:=by
 unfold Builtin.Slice.slicePlaces
 have h1 : (1 : Int) > 0:=by omega
 simp only [h1,if_true,Int.ediv_one]
 split <;> omega
theorem qb {v : Value} {o : Option Int} {Q : Option Int->Shared->Prop} (p : IsPart v o) (h : Q o s) : wpAny (model prog w) A (Builtin.Slice.slicePartIndex v) Q E s:=by
 cases p with
 | none=>exact slicePart_none h
 | int i t=>exact slicePart_int h
theorem xN {sl : Addr} {vl vu : Value} {lo hi : Option Int} {n : Nat} {Q : Int × Int × Nat->Shared->Prop} (hs : s.heap.IsSliceOf sl vl vu .none) (pl : IsPart vl lo) (pu : IsPart vu hi)
  (h : Q (((sIx n 0 lo : Nat) : Int),1,sIx n n hi - sIx n 0 lo) s) : wpAny (model prog w) A (Builtin.Slice.sliceApplied (.ref sl) (pure (n : Int))) Q E s:=by
 obtain ⟨os,hos,hcs,hds⟩:=id hs
 unfold Builtin.Slice.sliceApplied Builtin.Slice.sliceFields
 refine wpAny_bind (wpAny_bind (wpAny_field hos hds (x:=vl) rfl (wpAny_bind (wpAny_field hos hds (x:=vu) rfl (wpAny_bind (wpAny_field hos hds (x:=.none) rfl (wpAny_pure ?_)))))))
 refine wpAny_bind (slicePart_none ?_)
 show wpAny _ _ (if ((1 : Int) == 0) = true then _ else _) _ _ s
 rw [if_neg (by decide)]
 refine wpAny_bind (qb pl (wpAny_bind (qb pu (wpAny_bind (wpAny_pure ?_)))))
 show wpAny _ _ (match Builtin.Slice.sliceAdjust lo hi 1 (n : Int) with | (lo,hi)=>pure (lo,(1 : Int),Builtin.Slice.slicePlaces lo hi 1)) _ _ s
 rw [Xf lo hi n]
 show wpAny _ _ (pure (((sIx n 0 lo : Nat) : Int),(1 : Int),Builtin.Slice.slicePlaces ((sIx n 0 lo : Nat) : Int) ((sIx n n hi : Nat) : Int) 1)) _ _ s
 rw [Xg]
 exact wpAny_pure h
theorem Uo (xs : Array Value) (i k : Nat) : ((List.range k).filterMap fun (m : Nat)=>xs[((i : Int) + (m : Int) * 1).toNat]?).toArray = ((xs.toList.drop i).take k).toArray:=by
 have e : (fun (m : Nat)=>xs[((i : Int) + (m : Int) * 1).toNat]?) = fun m=>xs[i + m]?:=by
  funext m
  have : ((i : Int) + (m : Int) * 1).toNat = i + m:=by omega
  rw [this]
 rw [e]
 have:=pick_run xs i k
 rw [List.filterMap_map] at this
 have e2 : ((fun x=>xs[x]?) ∘ fun x=>i + x) = fun m=>xs[i + m]?:=rfl
 rw [e2] at this
 rw [this]
theorem getItem_tuple_cut {t sl : Addr} {items : Array Value} {vl vu : Value} {lo hi : Option Int} {Q : Value->Shared->Prop} (ht : IsTup s.heap t items) (hs : s.heap.IsSliceOf sl vl vu .none) (pl : IsPart vl lo) (pu : IsPart vu hi)
  (hw : ¬ (sIx items.size 0 lo = 0 /\ sIx items.size items.size hi = items.size))
  (h : Q (.ref s.heap.objs.size) { s with heap:=s.heap.push { cls:=.type "tuple",data:=.seq ((items.toList.drop (sIx items.size 0 lo)).take (sIx items.size items.size hi - sIx items.size 0 lo)).toArray } })
  (hsz : items.size <= sizeLine) : wpAny (model prog w) A (getItem (.ref t) (.ref sl)) Q E s:=by
 have htake : sizeOk (.seq ((items.toList.drop (sIx items.size 0 lo)).take (sIx items.size items.size hi - sIx items.size 0 lo)).toArray):=by
  show ((items.toList.drop (sIx items.size 0 lo)).take (sIx items.size items.size hi - sIx items.size 0 lo)).toArray.size <= sizeLine
  rw [List.size_toArray,List.length_take,List.length_drop,Array.length_toList]
  omega
 have hj : sIx items.size items.size hi <= items.size:=zaw _ _ (Nat.le_refl _) hi
 obtain ⟨os,hos,hcs,hds⟩:=id hs
 have hTs : s.TypeIs (.ref sl) "slice":=⟨os,hos,hcs⟩
 unfold getItem
 try with_reducible refine wpAny_holding ?_
 first | refine wpAny_bind (wpAny_pure ?_) | skip
 refine wpAny_bind (wpAny_sequenceKey ht.typeIs (by decide) ?_)
 refine wpAny_bind (wpAny_callSpecial?_slot (name:=Str.ofString "__getitem__") ht.typeIs PyProof.Rows.slot_tuple_getitem
  (wpAny_call_entry PyProof.Rows.slot_tuple_getitem ht.typeIs entry_tuple_getitem ?_ (args_tuple_getitem _ _)))
 show wpAny _ _ (Builtin.Tuple.tupleItemsOf (.ref t) >>= _) _ _ s
 refine wpAny_bind (tupleItemsOf_ ht ?_)
 refine wpAny_bind (wpAny_typeOf hTs ?_)
 rw [if_pos (by decide)]
 refine wpAny_bind (xN hs pl pu ?_)
 have hno : ¬ ((((sIx items.size 0 lo : Nat) : Int) == 0 && (1 : Int) == 1 && (sIx items.size items.size hi - sIx items.size 0 lo) == items.size) = true):=by
  intro q
  rw [Bool.and_eq_true,Bool.and_eq_true] at q
  have q1 : ((sIx items.size 0 lo : Nat) : Int) = 0:=eq_of_beq q.1.1
  have q2 : sIx items.size items.size hi - sIx items.size 0 lo = items.size:=eq_of_beq q.2
  exact hw ⟨by omega,by omega⟩
 show wpAny _ _ (if (((sIx items.size 0 lo : Nat) : Int) == 0 && (1 : Int) == 1 && (sIx items.size items.size hi - sIx items.size 0 lo) == items.size) = true then _ else _) _ _ s
 rw [if_neg hno,Uo]
 first
  | exact wpAny_bind (m:=Builtin.Tuple.tupleExact _) (wpAny_newObj_type (wpAny_pure ⟨_,rfl,wpAny_pure h⟩) htake)
  | exact wpAny_bind (m:=Builtin.Tuple.tupleExact _) (wpAny_newObj_type (wpAny_bind (wpAny_pure (wpAny_pure ⟨_,rfl,wpAny_pure h⟩))) htake)
  | exact wpAny_bind (wpAny_bind (m:=Builtin.Tuple.tupleExact _) (wpAny_newObj_type (wpAny_pure (wpAny_pure ⟨_,rfl,wpAny_pure h⟩)) htake))
  | exact wpAny_bind (wpAny_bind (m:=Builtin.Tuple.tupleExact _) (wpAny_newObj_type (wpAny_pure ⟨_,rfl,wpAny_pure h⟩) htake))
end
end HT
namespace L2
open PySem PySem.Spec PyProof.Rows
abbrev TO:=St->Hp->(Option Int->Hp->Prop)->Prop
def PO (X : Cx) (e : Option Expr) (t : TO) : Prop:=
 ∀ (pins : List (Addr × Obj)) (s : Shared) (σ : St) (H : Hp) (Q : Option Int->Hp->Prop),Inv X pins σ H s->t σ H Q->
  wpAny (model X.prog X.w) X.A (evalPart e X.env) (fun u s'=>∃ o H',Inv X pins σ H' s' /\ IsPart u o /\ Q o H') X.xe s
def tNoPart : TO:=fun _ H Q=>Q none H
def zct (t : TE) : TO:=fun σ H Q=>t σ H fun x H1=>∃ i,x = .int i /\ Q (some i) H1
section
variable {X : Cx} {e : Expr} {te : TE} {lo hi : Option Expr} {tl th : TO} {pos p2 : Pos}
theorem QA : PO X none tNoPart:=by
 intro pins s σ H Q I h
 rw [evalPart_none]
 exact wpAny_pure ⟨none,H,I,.none,h⟩
theorem QB (h : PE X e te) : PO X (some e) (zct te):=by
 intro pins s σ H Q I hw
 rw [evalPart_some]
 refine thn (h pins s σ H _ I hw) fun u s1 ⟨x,H1,I1,r1,q1⟩=>?_
 obtain ⟨i,rfl,q⟩:=q1
 obtain ⟨t,rfl⟩:=r1
 exact ⟨some i,H1,I1,.int i t,q⟩
def SlR (X : Cx) (r : V->Option Int->Option Int->Hp->VK->Prop) : Prop:=
 ∀ (pins : List (Addr × Obj)) (s : Shared) (σ : St) (H : Hp) (x : V) (v vl vu : Value) (lo hi : Option Int) (sl : Addr) (Q : VK),Inv X pins σ H s->yp x v->s.heap.IsSliceOf sl vl vu .none->IsPart vl lo->IsPart vu hi->r x lo hi H Q->
  ∃ T id,typeLookup (.type T) "__getitem__" = pure (some (.builtin id)) /\ s.TypeIs v T /\ wpAny (model X.prog X.w) X.A (getItem v (.ref sl)) (EP X pins σ Q) X.xe s
theorem SlR.or {r r' : V->Option Int->Option Int->Hp->VK->Prop} (h : SlR X r) (h' : SlR X r') : SlR X (fun x lo hi H Q=>r x lo hi H Q \/ r' x lo hi H Q):=by
 intro pins s σ H x v vl vu lo hi sl Q I rx hs pl pu q
 rcases q with q | q
 ·exact h pins s σ H x v vl vu lo hi sl Q I rx hs pl pu q
 ·exact h' pins s σ H x v vl vu lo hi sl Q I rx hs pl pu q
def tSl (r : V->Option Int->Option Int->Hp->VK->Prop) (te : TE) (tl th : TO) : TE:=fun σ H Q=>te σ H fun x H1=>tl σ H1 fun l H2=>th σ H2 fun u H3=>r x l u H3 Q
theorem Yp {r : V->Option Int->Option Int->Hp->VK->Prop} (hr : SlR X r) (he : PE X e te) (hl : PO X lo tl) (hu : PO X hi th) : PE X (.Subscript e (.Slice lo hi none p2) pos) (tSl r te tl th):=by
 intro pins s σ H Q I h
 refine Subscript_ (thn (he pins s σ H _ I h) fun v s1 ⟨x,H1,I1,r1,q1⟩=>?_)
 refine wpAny_Slice (thn (hl pins s1 σ H1 _ I1 q1) fun vl s2 ⟨l,H2,I2,pl,q2⟩=>thn (hu pins s2 σ H2 _ I2 q2) fun vu s3 ⟨u,H3,I3,pu,q3⟩=>?_)
 rw [evalPart_none]
 refine wpAny_pure ?_
 have I4 : Inv X pins σ H3 { s3 with heap:=s3.heap.push { cls:=.type "slice",data:=.fields #[vl,vu,.none] } }:=I3.kept (t':=s3.toks) fun b ob q=>Heap.get?_push_of_some _ q
 obtain ⟨T,id,hT,ht,hg⟩:=hr pins { s3 with heap:=s3.heap.push { cls:=.type "slice",data:=.fields #[vl,vu,.none] } } σ H3 x v vl vu l u s3.heap.objs.size Q I4 r1 (Heap.IsSliceOf.new ..) pl pu q3
 show wpAny (model X.prog X.w) X.A (subscriptTail e (.Slice lo hi none p2) v (.ref s3.heap.objs.size)) (EP X pins σ Q) X.xe { s3 with heap:=s3.heap.push { cls:=.type "slice",data:=.fields #[vl,vu,.none] } }
 exact tail_any (ops:=[.ref s3.heap.objs.size,v]) ht hT hg (by with_unfolding_all rfl)
def Tw (xs : List V) (lo hi : Option Int) : List V:=(xs.drop (HT.sIx xs.length 0 lo)).take (HT.sIx xs.length xs.length hi - HT.sIx xs.length 0 lo)
theorem uV (xs : List V) (lo hi : Option Int) : (Tw xs lo hi).length <= xs.length:=by
 unfold Tw
 rw [List.length_take,List.length_drop]
 omega
def zdz (K : PySem.W.Frag) : V->Option Int->Option Int->Hp->VK->Prop:=fun x lo hi H Q=>∃ a xs,x = .ref a /\ SqT K H a xs /\
 ¬ (HT.sIx xs.length 0 lo = 0 /\ HT.sIx xs.length xs.length hi = xs.length) /\ ∀ p,H p = none->Q (.ref p) (upd H p (.tup (Tw xs lo hi)))
theorem zax : SlR X (zdz X.K):=by
 intro pins s σ H x v vl vu lo hi sl Q I rx hs pl pu h
 obtain ⟨a,xs,rfl,hx,hw,q⟩:=h
 cases rx
 obtain ⟨its,r,ht,hz⟩:=I.tuple hx
 have hlen : its.toArray.size = xs.length:=by rw [List.size_toArray]; exact r.length.symm
 refine ⟨"tuple",_,PyProof.Rows.slot_tuple_getitem.lookup,ht.typeIs,?_⟩
 refine HT.getItem_tuple_cut ht hs pl pu (by rw [hlen]; exact hw) ?_ (by rw [hlen]; exact hz)
 rw [hlen]
 refine ⟨.ref s.heap.objs.size,_,I.laid (t':=s.toks) (o:=.tup (Tw xs lo hi)) (fun b ob q=>Heap.get?_push_of_some _ q) (Nat.le_refl _) ?_,rfl,q _ (I.hok.fresh (Nat.le_refl _))⟩
 exact ⟨Nat.le_trans (uV xs lo hi) hz,_,(r.drop (HT.sIx xs.length 0 lo)).take (HT.sIx xs.length xs.length hi - HT.sIx xs.length 0 lo),IsTup.new _ _⟩
def zcu (K : PySem.W.Frag) : R2:=fun x y H Q=>∃ a b xs ys,x = .ref a /\ y = .ref b /\ SqT K H a xs /\ SqT K H b ys /\ xs ≠ [] /\ xs.length + ys.length <= sizeLine /\
 (ys = []->Q (.ref a) H) /\ (ys ≠ []->∀ p,H p = none->Q (.ref p) (upd H p (.tup (xs++ys))))
theorem yn.nil_iff {xs : List V} {us : List Value} (r : yn xs us) : us = [] ↔ xs = []:=by
 cases r with
 | nil=>simp
 | cons _ _=>simp
theorem QC : OpR X (binaryOp .Add) (zcu X.K):=by
 intro pins s σ H x y v u Q I rx ry h
 obtain ⟨a,b,xs,ys,rfl,rfl,ha,hb,hx,hz,q1,q2⟩:=h
 cases rx
 cases ry
 obtain ⟨its,r1,p1,_⟩:=I.tuple ha
 obtain ⟨its2,r2,p2,_⟩:=I.tuple hb
 refine HT.cat_tup p1 p2 (fun z=>hx (r1.nil_iff.mp z)) (fun z=>⟨.ref a,H,I,rfl,q1 (r2.nil_iff.mp z)⟩) (fun z=>?_) (by rw [<- r1.length,<- r2.length]; exact hz)
 refine ⟨.ref s.heap.objs.size,_,I.laid (t':=s.toks) (o:=.tup (xs++ys)) (fun b ob q=>Heap.get?_push_of_some _ q) (Nat.le_refl _) ?_,rfl,q2 (fun w=>z (r2.nil_iff.mpr w)) _ (I.hok.fresh (Nat.le_refl _))⟩
 exact ⟨by rw [List.length_append]; exact hz,_,r1.append r2,IsTup.new _ _⟩
end
def ixN (n : Nat) (i : Int) : Option Nat:=if 0 <= i then (if i < n then some i.toNat else none) else if -(n : Int) <= i then some (i + n).toNat else none
def atI {α : Type} (xs : List α) (i : Int) : Option α:=(ixN xs.length i).bind fun j=>xs[j]?
theorem Wi {n : Nat} {i : Int} {j : Nat} (h : ixN n i = some j) : seqIndex? i n = some j /\ j < n /\ -(n : Int) <= i /\ i < n:=by
 unfold ixN at h
 by_cases h0 : 0 <= i
 ·rw [if_pos h0] at h
  by_cases h1 : i < n
  ·rw [if_pos h1] at h
   have e : i.toNat = j:=Option.some.inj h
   exact ⟨by rw [seqIndex_of h0 h1,e],by omega,by omega,h1⟩
  ·rw [if_neg h1] at h; cases h
 ·rw [if_neg h0] at h
  by_cases h1 : -(n : Int) <= i
  ·rw [if_pos h1] at h
   have e : (i + n).toNat = j:=Option.some.inj h
   exact ⟨by rw [seqIndex_neg (by omega) h1,e],by omega,h1,by omega⟩
  ·rw [if_neg h1] at h; cases h
theorem Zz {α : Type} {xs : List α} {i : Int} {v : α} (h : atI xs i = some v) : ∃ j,seqIndex? i xs.length = some j /\ xs[j]? = some v /\ j < xs.length /\ -(xs.length : Int) <= i /\ i < xs.length:=by
 unfold atI at h
 cases e : ixN xs.length i with
 | none=>rw [e] at h; cases h
 | some j=>
  rw [e] at h
  obtain ⟨h1,h2,h3,h4⟩:=Wi e
  exact ⟨j,h1,h,h2,h3,h4⟩
theorem ZA {α : Type} {xs : List α} {j : Nat} {v : α} (h : xs[j]? = some v) : atI xs (j : Int) = some v:=by
 have hj : j < xs.length:=(List.getElem?_eq_some_iff.mp h).1
 have e : ixN xs.length (j : Int) = some j:=by
  unfold ixN
  rw [if_pos (by omega),if_pos (by omega)]; simp
 unfold atI; rw [e]; exact h
def Wj (b : Expr) : Prop:=∀ o i,subscripted b false o i = operate [o,i] (getItem o i)
def IxR (X : Cx) (r : R2) : Prop:=
 ∀ (value slice : Expr) (pins : List (Addr × Obj)) (s : Shared) (σ : St) (H : Hp) (x y : V) (v u : Value) (Q : VK),Inv X pins σ H s->yp x v->yp y u->r x y H Q->
  subscripted slice false v u = operate [v,u] (getItem v u)->wpAny (model X.prog X.w) X.A (subscriptTail value slice v u) (EP X pins σ Q) X.xe s
def MtR (X : Cx) (id : String) (r : V->List V->Hp->VK->Prop) : Prop:=
 ∀ (pins : List (Addr × Obj)) (s : Shared) (σ : St) (H : Hp) (x : V) (xs : List V) (v : Value) (us : List Value) (Q : VK),Inv X pins σ H s->yp x v->yn xs us->r x xs H Q->
  wpAny (model X.prog X.w) X.A (call (.builtin id) (v::us)) (EP X pins σ Q) X.xe s
section
variable {X : Cx} {a b : Expr} {ta tb : TE} {pos : Pos}
theorem IxR.or {r r' : R2} (h : IxR X r) (h' : IxR X r') : IxR X (fun x y H Q=>r x y H Q \/ r' x y H Q):=by
 intro value slice pins s σ H x y v u Q I rx ry q hs
 rcases q with q | q
 ·exact h value slice pins s σ H x y v u Q I rx ry q hs
 ·exact h' value slice pins s σ H x y v u Q I rx ry q hs
theorem zcv {r : R2} (hr : IxR X r) (ha : PE X a ta) (hb : PE X b tb) (hs : Wj b) : PE X (.Subscript a b pos) (tOp r ta tb):=by
 intro pins s σ H Q I h
 exact Subscript_ (zck ha hb I h fun v u s2 x y H2 I2 rx ry q=>hr a b pins s2 σ H2 x y v u Q I2 rx ry q (hs _ _))
def zda (K : PySem.W.Frag) : R2:=fun x y H Q=>∃ p xs i v,x = .ref p /\ y = .int i /\ SqL K H p xs /\ atI xs i = some v /\ Q v H
def zdb (K : PySem.W.Frag) : R2:=fun x y H Q=>∃ p xs i v,x = .ref p /\ y = .int i /\ SqT K H p xs /\ atI xs i = some v /\ Q v H
def rIxS : R2:=fun x y H Q=>∃ z i c,x = .str z /\ y = .int i /\ z.length <= sizeLine /\ atI z.cps.toList i = some c /\ Q (.str ⟨#[c]⟩) H
theorem QD : IxR X (zda X.K):=by
 intro value slice pins s σ H x y v u Q I rx ry h hs
 obtain ⟨p,xs,i,z,rfl,rfl,hq,he,q⟩:=h
 cases rx
 obtain ⟨t,rfl⟩:=ry
 obtain ⟨its,r,pl,hz⟩:=I.list hq
 obtain ⟨j,h1,h2,h3,h4,h5⟩:=Zz he
 obtain ⟨w,ew,rw'⟩:=r.get h2
 have hl:=r.length
 have hn:=qa
 have fin : EP X pins σ Q w s:=⟨z,H,I,rw',q⟩
 by_cases h0 : 0 <= i
 ·have hj : i.toNat = j:=by
   rw [seqIndex_of h0 h5] at h1
   exact Option.some.inj h1
  exact item_listR pl.isList h0 (by omega) (by rw [hj]; simpa using ew) fin hs
 ·have hj : (i + (its.toArray.size : Int)).toNat = j:=by
   rw [seqIndex_neg (by omega) h4] at h1
   rw [List.size_toArray,<- hl]
   exact Option.some.inj h1
  exact subscriptTail_builtinR (x:=w) pl.isList.typeIs slot_list_getitem.lookup
   (wpAny_getItem_list_neg (Q:=fun r s'=>r = w /\ EP X pins σ Q r s') pl.isList (by omega) (by rw [List.size_toArray] <;> omega) (by omega) (by rw [hj]; simpa using ew) ⟨rfl,fin⟩) hs
theorem zay : IxR X (zdb X.K):=by
 intro value slice pins s σ H x y v u Q I rx ry h hs
 obtain ⟨p,xs,i,z,rfl,rfl,hq,he,q⟩:=h
 cases rx
 obtain ⟨t,rfl⟩:=ry
 obtain ⟨its,r,pl,hz⟩:=I.tuple hq
 obtain ⟨j,h1,h2,h3,h4,h5⟩:=Zz he
 obtain ⟨w,ew,rw'⟩:=r.get h2
 have hl:=r.length
 have hn:=qa
 have fin : EP X pins σ Q w s:=⟨z,H,I,rw',q⟩
 exact subscriptTail_builtinR (x:=w) pl.typeIs slot_tuple_getitem.lookup
  (getItem_tuple (j:=j) (Q:=fun r s'=>r = w /\ EP X pins σ Q r s') pl (by omega) (by omega) (by rw [List.size_toArray,<- hl]; exact h1) (by simpa using ew) ⟨rfl,fin⟩) hs
theorem zaz : IxR X rIxS:=by
 intro value slice pins s σ H x y v u Q I rx ry h hs
 obtain ⟨z,i,c,rfl,rfl,hz,he,q⟩:=h
 obtain ⟨t,rfl⟩:=rx
 obtain ⟨t',rfl⟩:=ry
 obtain ⟨j,h1,h2,h3,h4,h5⟩:=Zz he
 have hl : z.cps.toList.length = z.length:=by simp [Str.length]
 rw [hl] at h1 h4 h5
 have hn:=qa
 exact tail_any (typeIs_str s z t) slot_str_getitem.lookup (getItem_str (c:=c) (by
  have e1 : decide (i < -(2 ^ 63 : Int)) = false:=decide_eq_false (by omega)
  have e2 : decide (i ≥ 2 ^ 63) = false:=decide_eq_false (by omega)
  rw [e1,e2,Bool.or_false]) (by rw [h1]; simpa using h2) ⟨.str ⟨#[c]⟩,H,I.tok _,⟨_,rfl⟩,q⟩) hs
def rIx (K : PySem.W.Frag) : R2:=fun x y H Q=>zda K x y H Q \/ zdb K x y H Q \/ rIxS x y H Q
theorem zaA : IxR X (rIx X.K):=QD.or (zay.or zaz)
theorem Xh (its : List Value) (n j : Nat) (u : Value) : Obj.mapSeq (·.setIfInBounds j u) { cls:=.type "list",data:=.seq its.toArray n } = { cls:=.type "list",data:=.seq (its.set j u).toArray n }:=by
 simp [Obj.mapSeq]
theorem Inv.lst {pins : List (Addr × Obj)} {σ : St} {H : Hp} {s : Shared} {p : Addr} {xs : List V} (I : Inv X pins σ H s) (h : H p = some (.lst xs)) :
  ∃ (its : List Value) (n : Nat),yn xs its /\ s.heap.get? p = some { cls:=.type "list",data:=.seq its.toArray n } /\ xs.length <= sizeLine:=by
 obtain ⟨z,its,n,r,e⟩:=I.hok p _ h
 exact ⟨its,n,r,e,z⟩
theorem Inv.lstUpd {pins : List (Addr × Obj)} {σ : St} {H : Hp} {s : Shared} {p : Addr} {xs ys : List V} {its its' : List Value} {n n' : Nat} {f : Obj->Obj} (I : Inv X pins σ H s) (h : H p = some (.lst xs))
  (ho : s.heap.get? p = some { cls:=.type "list",data:=.seq its.toArray n }) (hf : f { cls:=.type "list",data:=.seq its.toArray n } = { cls:=.type "list",data:=.seq its'.toArray n' }) (r : yn ys its') (hz : ys.length <= sizeLine) (t : Nat) :
  Inv X pins σ (upd H p (.lst ys)) { s with heap:=s.heap.update p f,toks:=t }:=by
 have e : (s.heap.update p f).get? p = some { cls:=.type "list",data:=.seq its'.toArray n' }:=by
  rw [Heap.get?_update_self f ho (by rw [hf] <;> rfl),hf]
 refine I.write (x:=p) (e:=p) (by rw [h]; trivial) (.inl rfl) (fun b u hb q=>(Heap.get?_update_other _ _ (Ne.symm hb)).trans q) ⟨_,e⟩ ?_
 exact ⟨hz,its',n',r,e⟩
def rSetL : V->V->V->Hp->(Hp->Prop)->Prop:=fun o i v H Q=>∃ p xs k j,o = .ref p /\ i = .int k /\ H p = some (.lst xs) /\ ixN xs.length k = some j /\ Q (upd H p (.lst (xs.set j v)))
theorem Up : zc7 X rSetL:=by
 intro pins s σ H o i v ov iv u Q I ro ri rv h
 obtain ⟨p,xs,k,j,rfl,rfl,hp,hj,q⟩:=h
 cases ro
 obtain ⟨t,rfl⟩:=ri
 obtain ⟨its,n,r,ho,hz⟩:=I.lst hp
 obtain ⟨h1,h2,h3,h4⟩:=Wi hj
 have hl:=r.length
 have hn:=qa
 have I' : Inv X pins σ (upd H p (.lst (xs.set j v))) { s with heap:=s.heap.update p (Obj.mapSeq (·.setIfInBounds j u)) }:=
  I.lstUpd hp ho (Xh its n j u) (r.set rv j) (by rw [List.length_set]; exact hz) s.toks
 by_cases h0 : 0 <= k
 ·have hk : k.toNat = j:=by
   rw [seqIndex_of h0 h4] at h1
   exact Option.some.inj h1
  exact PySem.W.ki_setAt ho h0 (by omega) (by rw [List.size_toArray,<- hl]; exact h4) (by rw [hk]; exact ⟨_,I',q⟩)
 ·have hk : (k + (its.toArray.size : Int)).toNat = j:=by
   rw [seqIndex_neg (by omega) h3] at h1
   rw [List.size_toArray,<- hl]
   exact Option.some.inj h1
  exact PySem.W.ki_setBack ho (by omega) (by rw [List.size_toArray,<- hl]; exact h3) (by omega) (by rw [hk]; exact ⟨_,I',q⟩)
theorem jQ (lo hi : Option Int) (n : Nat) : (sliceBounds lo hi none n).1 = ((HT.sIx n 0 lo : Nat) : Int) /\ (sliceBounds lo hi none n).2.1 = ((HT.sIx n n hi : Nat) : Int) /\ (sliceBounds lo hi none n).2.2 = 1:=by
 refine ⟨?_,?_,rfl⟩
 ·cases lo with
  | none=>simp [sliceBounds,HT.sIx]
  | some i=>
   simp only [sliceBounds,HT.sIx,Option.getD_none,show (1 : Int) > 0 by decide,if_true]
   by_cases h : i < 0
   ·simp only [h,if_true] <;> omega
   ·simp only [h,if_false] <;> omega
 ·cases hi with
  | none=>simp [sliceBounds,HT.sIx]
  | some i=>
   simp only [sliceBounds,HT.sIx,Option.getD_none,show (1 : Int) > 0 by decide,if_true]
   by_cases h : i < 0
   ·simp only [h,if_true] <;> omega
   ·simp only [h,if_false] <;> omega
theorem qQ (its : List Value) (lo hi : Option Int) : slicePick its.toArray lo hi none = ((its.drop (HT.sIx its.length 0 lo)).take (HT.sIx its.length its.length hi - HT.sIx its.length 0 lo)).toArray:=by
 obtain ⟨h1,h2,h3⟩:=jQ lo hi its.toArray.size
 unfold slicePick
 rw [h1,h2,h3]
 simp only [sliceRange_one,pick_run,List.size_toArray] <;> rfl
def zdA (K : PySem.W.Frag) : V->Option Int->Option Int->Hp->VK->Prop:=fun x lo hi H Q=>∃ a xs,x = .ref a /\ SqL K H a xs /\ ∀ p,H p = none->Q (.ref p) (upd H p (.lst (Tw xs lo hi)))
theorem QE : SlR X (zdA X.K):=by
 intro pins s σ H x v vl vu lo hi sl Q I rx hs pl pu h
 obtain ⟨a,xs,rfl,hx,q⟩:=h
 cases rx
 obtain ⟨its,r,ht,hz⟩:=I.list hx
 have hlen:=r.length
 refine ⟨"list",_,slot_list_getitem.lookup,ht.isList.typeIs,?_⟩
 refine wpAny_getItem_list_slice ht.isList hs pl pu .none (by simp) ?_ (by rw [List.size_toArray] <;> omega)
 rw [qQ,<- hlen]
 refine ⟨.ref s.heap.objs.size,_,I.laid (t':=s.toks) (o:=.lst (Tw xs lo hi)) (fun b ob q=>Heap.get?_push_of_some _ q) (Nat.le_refl _) ?_,rfl,q _ (I.hok.fresh (Nat.le_refl _))⟩
 exact ⟨Nat.le_trans (uV xs lo hi) hz,_,0,(r.drop (HT.sIx xs.length 0 lo)).take (HT.sIx xs.length xs.length hi - HT.sIx xs.length 0 lo),Heap.get?_push_size _ rfl⟩
def uW : V->Bool
 | .non=>true
 | .bl _=>true
 | .int _=>true
 | .str _=>true
 | _=>false
def eqV : V->V->Bool
 | .non,.non=>true
 | .bl a,.bl b=>a == b
 | .bl a,.int b=>(if a then 1 else 0) == b
 | .int a,.bl b=>a == (if b then 1 else 0)
 | .int a,.int b=>a == b
 | .str a,.str b=>a == b
 | _,_=>false
theorem Ty {A : Around} {s : Shared} {y x : V} {u v : Value} (ry : yp y u) (rx : yp x v) (fy : uW y = true) (fx : uW x = true) : SeqAt.EqAt A s u v (eqV y x):=by
 cases y with
 | non=>
  cases ry
  cases x with
  | non=>cases rx; exact SeqAt.EqAt.same _
  | bl b=>cases rx; exact SeqAt.EqAt.none_bool b
  | int b=>obtain ⟨t,rfl⟩:=rx; exact SeqAt.EqAt.none_int b t
  | str b=>obtain ⟨t,rfl⟩:=rx; exact SeqAt.EqAt.none_str b t
  | _=>exact absurd (show false = true from fx) Bool.false_ne_true
 | bl a=>
  cases ry
  cases x with
  | non=>cases rx; exact SeqAt.EqAt.bool_none a
  | bl b=>cases rx; exact SeqAt.EqAt.bool_bool a b
  | int b=>obtain ⟨t,rfl⟩:=rx; exact SeqAt.EqAt.bool_int a b t
  | str b=>obtain ⟨t,rfl⟩:=rx; exact SeqAt.EqAt.bool_str a b t
  | _=>exact absurd (show false = true from fx) Bool.false_ne_true
 | int a=>
  obtain ⟨t',rfl⟩:=ry
  cases x with
  | non=>cases rx; exact SeqAt.EqAt.int_none a t'
  | bl b=>cases rx; exact SeqAt.EqAt.int_bool a t' b
  | int b=>obtain ⟨t,rfl⟩:=rx; exact SeqAt.EqAt.int_int a t' b t
  | str b=>obtain ⟨t,rfl⟩:=rx; exact SeqAt.EqAt.int_str a t' b t
  | _=>exact absurd (show false = true from fx) Bool.false_ne_true
 | str a=>
  obtain ⟨t',rfl⟩:=ry
  cases x with
  | non=>cases rx; exact SeqAt.EqAt.str_none a t'
  | bl b=>cases rx; exact SeqAt.EqAt.str_bool a t' b
  | int b=>obtain ⟨t,rfl⟩:=rx; exact SeqAt.EqAt.str_int a t' b t
  | str b=>obtain ⟨t,rfl⟩:=rx; exact SeqAt.EqAt.str_str a t' b t
  | _=>exact absurd (show false = true from fx) Bool.false_ne_true
 | _=>exact absurd (show false = true from fy) Bool.false_ne_true
def eqU (x : V) (u : Value) : Bool:=match u with
 | .none=>eqV .non x
 | .bool b=>eqV (.bl b) x
 | .int i _=>eqV (.int i) x
 | .str z _=>eqV (.str z) x
 | _=>false
theorem Tz {x y : V} {u : Value} (r : yp y u) (f : uW y = true) : eqU x u = eqV y x:=by
 cases y with
 | non=>cases r; rfl
 | bl b=>cases r; rfl
 | int i=>obtain ⟨t,rfl⟩:=r; rfl
 | str z=>obtain ⟨t,rfl⟩:=r; rfl
 | _=>exact absurd (show false = true from f) Bool.false_ne_true
theorem uX {x : V} : ∀ {xs : List V} {us : List Value},yn xs us->xs.all uW = true->us.any (eqU x) = xs.any fun y=>eqV y x
 | _,_,.nil,_=>rfl
 | y::xs,u::us,.cons r t,f=>by
  rw [List.all_cons,Bool.and_eq_true] at f
  rw [List.any_cons,List.any_cons,Tz r f.1,uX t f.2]
theorem wY {A : Around} {s : Shared} {x : V} {v : Value} (rx : yp x v) (fx : uW x = true) : ∀ {xs : List V} {us : List Value},yn xs us->xs.all uW = true->∀ u ∈ us,SeqAt.EqAt A s u v (eqU x u)
 | _,_,.nil,_=>fun u hu=>by cases hu
 | y::xs,u::us,.cons r t,f=>fun u' hu=>by
  rw [List.all_cons,Bool.and_eq_true] at f
  rcases List.mem_cons.mp hu with rfl | hu
  ·rw [Tz r f.1]; exact Ty r rx f.1 fx
  ·exact wY rx fx t f.2 u' hu
def inV (x : V) (xs : List V) : Bool:=xs.any fun y=>eqV y x
def rIn (K : PySem.W.Frag) (neg : Bool) : R2:=fun x y H Q=>∃ p xs,y = .ref p /\ (SqL K H p xs \/ SqT K H p xs) /\ uW x = true /\ xs.all uW = true /\ Q (.bl (if neg then !inV x xs else inV x xs)) H
theorem Wl : OpR X (compareOp .In) (rIn X.K false):=by
 intro pins s σ H x y v u Q I rx ry h
 obtain ⟨p,xs,rfl,hq,fx,fs,q⟩:=h
 cases ry
 rcases hq with hq | hq
 ·obtain ⟨its,r,pl,hz⟩:=I.list hq
  refine SeqAt.in_listAt (eqU x) pl.isList (fun w hw=>wY rx fx r fs w (by simpa using hw)) ⟨.bl _,H,I,rfl,?_⟩
  rw [show its.toArray.any (eqU x) = its.any (eqU x) by simp,uX r fs]
  exact q
 ·obtain ⟨its,r,pl,hz⟩:=I.tuple hq
  refine SeqAt.in_tupleAt (eqU x) pl (fun w hw=>wY rx fx r fs w (by simpa using hw)) ⟨.bl _,H,I,rfl,?_⟩
  rw [show its.toArray.any (eqU x) = its.any (eqU x) by simp,uX r fs]
  exact q
theorem jR : OpR X (compareOp .NotIn) (rIn X.K true):=by
 intro pins s σ H x y v u Q I rx ry h
 obtain ⟨p,xs,rfl,hq,fx,fs,q⟩:=h
 cases ry
 rcases hq with hq | hq
 ·obtain ⟨its,r,pl,hz⟩:=I.list hq
  refine SeqAt.notIn_listAt (eqU x) pl.isList (fun w hw=>wY rx fx r fs w (by simpa using hw)) ⟨.bl _,H,I,rfl,?_⟩
  rw [show its.toArray.any (eqU x) = its.any (eqU x) by simp,uX r fs]
  exact q
 ·obtain ⟨its,r,pl,hz⟩:=I.tuple hq
  refine SeqAt.notIn_tupleAt (eqU x) pl (fun w hw=>wY rx fx r fs w (by simpa using hw)) ⟨.bl _,H,I,rfl,?_⟩
  rw [show its.toArray.any (eqU x) = its.any (eqU x) by simp,uX r fs]
  exact q
theorem jS : OpR X (compareOp .NotIn) (fun x y H Q=>∃ i j,x = .str i /\ y = .str j /\ Q (.bl (!(!(Builtin.Str.occurrences j i 0 j.length 1).isEmpty))) H):=by
 intro pins s σ H x y v u Q I rx ry h
 obtain ⟨i,j,rfl,rfl,q⟩:=h
 obtain ⟨t,rfl⟩:=rx
 obtain ⟨t',rfl⟩:=ry
 exact notIn_str ⟨.bl _,H,I,rfl,q⟩
theorem jT : xp X (.builtin "len") (fun xs H Q=>∃ p ys,xs = [.ref p] /\ (SqL X.K H p ys \/ SqT X.K H p ys) /\ Q (.int ys.length) H):=by
 intro pins s σ H xs us Q I r h
 obtain ⟨p,ys,rfl,hq,q⟩:=h
 obtain ⟨u,rfl,rx⟩:=uA r
 cases rx
 have hn:=qa
 rcases hq with hq | hq
 ·obtain ⟨its,r',pl,hz⟩:=I.list hq
  have hlen:=r'.length
  exact Calls.call_len_list pl.isList (by simp only [List.size_toArray] <;> omega) ⟨.int ys.length,H,I.tok _,⟨s.toks + 1,by rw [List.size_toArray,hlen]⟩,q⟩
 ·obtain ⟨its,r',pl,hz⟩:=I.tuple hq
  have hlen:=r'.length
  exact len_tuple pl (by simp only [List.size_toArray] <;> omega) ⟨.int ys.length,H,I.tok _,⟨s.toks + 1,by rw [List.size_toArray,hlen]⟩,q⟩
theorem jU : xp X (.builtin "len") (fun xs H Q=>∃ z,xs = [.str z] /\ z.length <= sizeLine /\ Q (.int z.length) H):=by
 intro pins s σ H xs us Q I r h
 obtain ⟨z,rfl,hz,q⟩:=h
 obtain ⟨u,rfl,t,rfl⟩:=uA r
 have hn:=qa
 exact len_str (by omega) ⟨.int z.length,H,I.tok _,⟨_,rfl⟩,q⟩
theorem xp.or {f : Value} {r r' : List V->Hp->VK->Prop} (h : xp X f r) (h' : xp X f r') : xp X f (fun xs H Q=>r xs H Q \/ r' xs H Q):=by
 intro pins s σ H xs us Q I rs q
 rcases q with q | q
 ·exact h pins s σ H xs us Q I rs q
 ·exact h' pins s σ H xs us Q I rs q
theorem qR : xp X (.type "tuple") (fun xs H Q=>∃ p ys,xs = [.ref p] /\ ((SqL X.K H p ys /\ ∀ l,H l = none->Q (.ref l) (upd H l (.tup ys))) \/ (SqT X.K H p ys /\ Q (.ref p) H))):=by
 intro pins s σ H xs us Q I r h
 obtain ⟨p,ys,rfl,h⟩:=h
 obtain ⟨u,rfl,rx⟩:=uA r
 cases rx
 rcases h with ⟨hq,q⟩ | ⟨hq,q⟩
 ·obtain ⟨its,r',pl,hz⟩:=I.list hq
  have hlen:=r'.length
  refine call_tuple_list pl.isList (fun h' kp=>?_) (by simp only [List.size_toArray] <;> omega)
  have I1 : Inv X pins σ H { s with heap:=h' }:=I.kept (t':=s.toks) kp
  have I2 : Inv X pins σ (upd H h'.objs.size (.tup ys)) { s with heap:=h'.push { cls:=.type "tuple",data:=.seq its.toArray } }:=
   I1.laid (t':=s.toks) (fun b o e=>Heap.get?_push_of_some _ e) (Nat.le_refl _) (show yR X.prog X.w _ _ _ (.tup ys) from ⟨hz,its,r',IsTup.new _ _⟩)
  exact ⟨.ref h'.objs.size,_,I2,rfl,q _ (I1.hok.fresh (Nat.le_refl _))⟩
 ·obtain ⟨its,r',pl,hz⟩:=I.tuple hq
  exact call_tuple_same pl ⟨.ref p,H,I,rfl,q⟩
def tyV (K : PySem.W.Frag) (T : String) (x : V) (H : Hp) : Prop:=match x with
 | .str _=>T = "str"
 | .int _=>T = "int"
 | .ref p=>(T = "list" /\ ∃ xs,SqL K H p xs) \/ (T = "tuple" /\ ∃ o,K.lookup p = some o /\ o.cls = .type "tuple" /\ o.dict = none) \/
   (T = "dict" /\ ((∃ kvs,H p = some (.dK kvs)) \/ ∃ kvs,H p = some (.dT kvs))) \/ (T = "set" /\ ∃ S n,H p = some (.set S n))
 | _=>False
theorem zaB {pins : List (Addr × Obj)} {σ : St} {H : Hp} {s : Shared} {T : String} {x : V} {v : Value} (I : Inv X pins σ H s) (r : yp x v) (ty : tyV X.K T x H) :
  s.TypeIs v T /\ ∀ a,v = .ref a->∃ ob,s.heap.get? a = some ob /\ ob.dict = none:=by
 cases x with
 | str z=>
  obtain ⟨t,rfl⟩:=r
  cases (show T = "str" from ty)
  exact ⟨typeIs_str s z t,fun _ e=>nomatch e⟩
 | int i=>
  obtain ⟨t,rfl⟩:=r
  cases (show T = "int" from ty)
  exact ⟨typeIs_int s i t,fun _ e=>nomatch e⟩
 | ref p=>
  cases r
  rcases ty with ⟨rfl,xs,hq⟩ | ⟨rfl,o,hk,hc,hd⟩ | ⟨rfl,hk⟩ | ⟨rfl,S,n,hk⟩
  ·obtain ⟨its,_,pl,_⟩:=I.list hq
   refine ⟨pl.isList.typeIs,fun a e=>?_⟩
   cases e
   obtain ⟨o,n,e,c,hd,_⟩:=pl
   exact ⟨o,e,hd⟩
  ·refine ⟨⟨o,I.kIn p o hk,hc⟩,fun a e=>?_⟩
   cases e
   exact ⟨o,I.kIn _ o hk,hd⟩
  ·have z : ∃ o,s.heap.get? p = some o /\ o.ExactDict:=by
    rcases hk with ⟨kvs,hk⟩ | ⟨kvs,hk⟩
    ·obtain ⟨_,_,_,_,o,_,_,e,ex,_⟩:=I.hok p _ hk
     exact ⟨o,e,ex⟩
    ·obtain ⟨_,_,_,_,o,_,_,e,ex,_⟩:=I.hok p _ hk
     exact ⟨o,e,ex⟩
   obtain ⟨o,e,ex⟩:=z
   refine ⟨⟨o,e,ex.1⟩,fun a e2=>?_⟩
   cases e2
   exact ⟨o,e,ex.2.1⟩
  ·obtain ⟨o,_,_,_,e,ex,_⟩:=I.hok p _ hk
   refine ⟨⟨o,e,ex.1⟩,fun a e2=>?_⟩
   cases e2
   exact ⟨o,e,ex.2.1⟩
 | _=>exact False.elim ty
def tBM (K : PySem.W.Frag) (T : String) (r : V->List V->Hp->VK->Prop) (to : TE) (t : TA) : TE:=fun σ H Q=>to σ H fun x H1=>tyV K T x H1 /\ t σ H1 fun xs H2=>r x xs H2 Q
variable {o e : Expr} {es : List Expr} {to : TE} {t : TA} {name : Str} {apos cpos : Pos} {T id : String} {r : V->List V->Hp->VK->Prop}
theorem jV (pa : PlainAttrs T) (slot : Slot T name id) (hty : typeOf (.builtin id) = pure (.type "method_descriptor")) (hm : MtR X id r) (ho : PE X o to) (ha : PA X (e::es) t)
  (hbase : attributeBase o name X.env (eval o X.env) = eval o X.env:=by rfl)
  (hfew : ((backTo cpos (starEach (e::es) X.env)).all (fun x=>!x.1) && (backToKw cpos (keywordEach [] X.env)).all (fun x=>x.1.isSome)
   && decide ((e::es).length + ([] : List Keyword).length + (if ([] : List Keyword).isEmpty then 0 else 1) < 30)) = true:=by rfl)
  (hline : (apos.endLine == cpos.line) = true:=by rfl) (hs : starEach (e::es) X.env = (false,eval e X.env)::starEach es X.env:=by rfl) (hplain : (backTo cpos (starEach es X.env)).any (·.1) = false:=by rfl) :
  PE X (.Call (.Attribute o name apos) (e::es) [] cpos) (tBM X.K T r to t):=by
 intro pins s σ H Q I h
 refine wpAny_Call_method_late hbase hfew hline rfl (thn (ho pins s σ H _ I h) fun v s1 ⟨x,H1,I1,r1,ty,q1⟩=>?_)
 obtain ⟨h1,h2⟩:=zaB I1 r1 ty
 refine ⟨T,id,pa,slot,hty,h1,h2,?_⟩
 have hA:=ha cpos pins s1 σ H1 _ I1 q1
 rw [hs] at hA ⊢
 refine Calls.callWith_builtin (by show (false || (backTo cpos (starEach es X.env)).any (·.1)) = false; rw [hplain] <;> rfl) (Calls.evalArgs_plain ?_)
 exact thn hA fun us s2 ⟨vs,H2,I2,r2,q2⟩=>hm pins s2 σ H2 x vs v us Q I2 r1 r2 q2
/- xs.append(e),list.index on a module's tuple .. are MtR facts of 06m -/
end
def MtM (X : Cx) (id : String) (r : V->List V->Hp->VK->Prop) : Prop:=
 ∀ (pins : List (Addr × Obj)) (s : Shared) (σ : St) (H : Hp) (x : V) (xs : List V) (v : Value) (us : List Value) (Q : VK),Inv X pins σ H s->yp x v->yn xs us->r x xs H Q->
  wpAny (model X.prog X.w) X.A (call (.builtin id) (v::us)) (EP X pins σ Q) X.xe s
theorem yn.one : ∀ {x : V} {us : List Value},yn [x] us->∃ u,us = [u] /\ yp x u
 | _,_,.cons r .nil=>⟨_,rfl,r⟩
theorem yn.eraseIdx : ∀ {xs : List V} {us : List Value} (i : Nat),yn xs us->yn (xs.eraseIdx i) (us.eraseIdx i)
 | _,_,_,.nil=>.nil
 | _,_,0,.cons _ t=>t
 | _,_,i + 1,.cons r t=>.cons r (yn.eraseIdx i t)
theorem jW {α : Type} : ∀ (l : List α) (i : Nat),(l.eraseIdx i).length <= l.length
 | [],_=>Nat.le_refl _
 | _::_,0=>Nat.le_succ _
 | _::r,i + 1=>Nat.succ_le_succ (jW r i)
section
variable {X : Cx} {pins : List (Addr × Obj)} {σ : St} {H : Hp} {s : Shared} {l b : Addr} {xs ys zs : List V}
theorem Inv.lset {its its' : List Value} {n : Nat} {f : Array Value->Array Value} {t' : Nat} (I : Inv X pins σ H s) (hH : H l = some (.lst xs))
  (e : s.heap.get? l = some { cls:=.type "list",data:=.seq its.toArray n }) (hf : f its.toArray = its'.toArray) (hv : yn ys its') (hz : ys.length <= sizeLine) :
  Inv X pins σ (upd H l (.lst ys)) { s with heap:=s.heap.update l (Obj.mapSeq f),toks:=t' }:=by
 have q:=PySem.IsL.update e f
 rw [hf] at q
 refine I.write (x:=l) (e:=l) (by rw [hH]; exact trivial) (.inl rfl) (fun b' u hb hu=>(Heap.get?_update_other s.heap (Obj.mapSeq f) (Ne.symm hb)).trans hu) ⟨_,q⟩ ?_
 exact ⟨hz,its',_,hv,q⟩
theorem Inv.lnew {its : List Value} {t' : Nat} (I : Inv X pins σ H s) (hv : yn ys its) (hz : ys.length <= sizeLine) :
  Inv X pins σ (upd H s.heap.objs.size (.lst ys)) { s with heap:=s.heap.push { cls:=.type "list",data:=.seq its.toArray },toks:=t' }:=
 I.laid (fun _ _ q=>Heap.get?_push_of_some _ q) (Nat.le_refl _) ⟨hz,its,0,hv,Heap.get?_push_size _ rfl⟩
theorem Inv.fresh (I : Inv X pins σ H s) : H s.heap.objs.size = none:=I.hok.fresh (Nat.le_refl _)
theorem Inv.lstM (I : Inv X pins σ H s) (hH : H l = some (.lst xs)) : xs.length <= sizeLine /\ ∃ (its : List Value) (n : Nat),yn xs its /\ xs.length = its.length /\ s.heap.get? l = some { cls:=.type "list",data:=.seq its.toArray n }:=by
 obtain ⟨z,its,n,r,e⟩:=I.hok l _ hH
 exact ⟨z,its,n,r,r.length,e⟩
theorem Uq {n : Nat} (h : n <= sizeLine) : Builtin.List.listTooLong n = false:=by
 unfold Builtin.List.listTooLong
 exact decide_eq_false (by omega)
end
section
variable {X : Cx}
def rAppend : V->List V->Hp->VK->Prop:=fun x vs H Q=>∃ l xs y,x = .ref l /\ vs = [y] /\ H l = some (.lst xs) /\ xs.length < sizeLine /\ Q .non (upd H l (.lst (xs++[y])))
theorem Wm : MtM X "list.append" rAppend:=by
 intro pins s σ H x vs v us Q I rx rv h
 obtain ⟨l,xs,y,rfl,rfl,hH,hz,q⟩:=h
 cases rx
 obtain ⟨u,rfl,ru⟩:=rv.one
 obtain ⟨z,its,n,r,hl,e⟩:=I.lstM hH
 refine call_meets F.slot_list_append ⟨_,e,rfl⟩ F.entry_list_append (F.args_list_append_2 _ _) (PySem.list_append l its.toArray n u (by rw [List.size_toArray]; omega)) ⟨e,?_⟩
 refine ⟨.non,_,I.lset (its':=its++[u]) hH e (by simp) (r.append (.cons ru .nil)) ?_,rfl,q⟩
 rw [List.length_append,List.length_singleton]
 omega
def rExtend : V->List V->Hp->VK->Prop:=fun x vs H Q=>∃ l b xs zs,x = .ref l /\ vs = [.ref b] /\ H l = some (.lst xs) /\ H b = some (.lst zs) /\ xs.length + zs.length <= sizeLine /\ Q .non (upd H l (.lst (xs++zs)))
theorem Wn : MtM X "list.extend" rExtend:=by
 intro pins s σ H x vs v us Q I rx rv h
 obtain ⟨l,b,xs,zs,rfl,rfl,hH,hB,hz,q⟩:=h
 cases rx
 obtain ⟨u,rfl,ru⟩:=rv.one
 cases ru
 obtain ⟨z,its,n,r,hl,e⟩:=I.lstM hH
 obtain ⟨z2,its2,n2,r2,hl2,e2⟩:=I.lstM hB
 have hsz : its.toArray.size + its2.toArray.size <= sizeLine:=by rw [List.size_toArray,List.size_toArray]; omega
 have hlong : ¬ (!its.toArray.isEmpty && Builtin.List.listTooLong (its.toArray.size + its2.toArray.size)) = true:=by
  rw [Uq hsz,Bool.and_false]
  exact Bool.false_ne_true
 refine call_meets F.slot_list_extend ⟨_,e,rfl⟩ F.entry_list_extend (F.args_list_extend_2 _ _)
  (AutoSeq1.list_extend_list_list_0 l its.toArray n b its2.toArray n2 hlong (by rw [List.size_toArray]; omega) (by omega)) ⟨e,e2,?_⟩
 refine ⟨.non,_,I.lset (its':=its++its2) hH e (by simp) (r.append r2) ?_,rfl,q⟩
 rw [List.length_append]
 omega
def rPopAt : V->List V->Hp->VK->Prop:=fun x vs H Q=>∃ l xs i k y,x = .ref l /\ vs = [.int i] /\ H l = some (.lst xs) /\ -(2 ^ 63) <= i /\ i < 2 ^ 63 /\ seqIndex? i xs.length = some k /\ xs[k]? = some y /\ Q y (upd H l (.lst (xs.eraseIdx k)))
theorem Ur : MtM X "list.pop" rPopAt:=by
 intro pins s σ H x vs v us Q I rx rv h
 obtain ⟨l,xs,i,k,y,rfl,rfl,hH,h1,h2,hk,hy,q⟩:=h
 cases rx
 obtain ⟨u,rfl,ru⟩:=rv.one
 obtain ⟨t,rfl⟩:=ru
 obtain ⟨z,its,n,r,hl,e⟩:=I.lstM hH
 obtain ⟨w,hw,rw'⟩:=r.get hy
 refine call_meets F.slot_list_pop ⟨_,e,rfl⟩ F.entry_list_pop (F.args_list_pop_2 _ _)
  (MeetsSeq.list_pop_at l its.toArray n i t k w (fitsIndex_both h1 h2) (by rw [List.size_toArray,<- hl]; exact hk) (by rw [<- Array.getElem?_toList]; exact hw) (by rw [List.size_toArray]; omega)) ⟨e,?_⟩
 refine ⟨y,_,I.lset (its':=its.eraseIdx k) hH e ?_ (r.eraseIdx k) ?_,rw',q⟩
 ·show its.toArray.eraseIdxIfInBounds k = (its.eraseIdx k).toArray
  rw [List.eraseIdxIfInBounds_toArray]
 ·have:=jW xs k
  omega
end
section
variable {prog : Program} {w : World} {A : Around} {E : Value->Shared->Prop} {s : Shared}
end
section
variable {X : Cx}
end
end L2
namespace Att
open PySem PySem.W PySem.Calls PyProof.Rows
theorem uY {P : Params} {h : Heap} : ∀ (ns : List Int) (vs : List Value),WellAll P h vs (ns.map WData.int)->IntsAre vs ns:=by
 intro ns
 induction ns with
 | nil=>
  intro vs w
  rw [List.map_nil] at w
  cases w
  exact .nil
 | cons n ns ih=>
  intro vs w
  rw [List.map_cons] at w
  cases w with
  | cons a b=>
   cases a
   exact .cons _ _ (ih _ b)
theorem Wo {l : OpenLaw} {n : Nat} (hn : l.most = some n) {P : Params} {h : Heap} {args : List WData} {vals : List Value}
  (hpre : l.row.toRowW.claim.pre args = true) (hwl : WellAll P h vals args) :
  ∃ a vs ns,vals = [Value.ref a] /\ args = [WData.list (ns.map WData.int)] /\ h.get? a = some { cls:=.type "list",data:=.seq vs.toArray } /\ IntsAre vs ns /\ ns.length <= n:=by
 have hsh : WShape.hasAll [] args [.list .int] = true:=(pre_splitW hpre).1
 have hc : l.pre.holds [] { args:=args } = true:=(pre_splitW hpre).2
 obtain ⟨d,r,rfl,h1,h2⟩:=hasAllW_cons hsh
 obtain rfl:=hasAllW_nil h2
 obtain ⟨xs,rfl,h3⟩:=hasW_list h1
 obtain ⟨ns,rfl⟩:=items_int h3
 have hlen : ns.length <= n:=by
  unfold OpenLaw.pre at hc
  have h4 : (WTm.not (.lt (.lit (.int (n : Int))) (.len (.arg 0)))).holds [] { args:=[.list (ns.map .int)] } = true:=by
   have h4:=(holds_andW hc).1
   rw [hn] at h4
   exact h4
  have h5:=condW_of h4 (w_not (w_lt w_lit (w_len_list (w_arg rfl))))
  rw [List.length_map] at h5
  refine Nat.le_of_not_lt fun q=>?_
  have q' : (n : Int) < ((ns.length : Nat) : Int):=by omega
  first
   | (rw [decide_eq_true q'] at h5; exact absurd h5 (by decide))
   | (simp at h5; omega)
 cases hwl with
 | cons w1 w2=>
  cases w2
  cases w1 with
  | list ho hall=>exact ⟨_,_,ns,rfl,rfl,ho,uY ns _ hall,hlen⟩
theorem Wq (l : OpenLaw) (args : List WData) : l.row.toRowW.claim.post args (.bool true) args = true:=
 postW_of (r:=l.row.toRowW) (X:=(true == true))
  (show WShape.has [] (.bool true) .bool = true by first | rfl | decide | simp [WShape.has,WShape.arms,WShape.armsAll])
  (show (WTm.eq .res (.lit (.bool true))).value [] { args:=args,res:=some (.bool true),after:=args } = some (.bool (true == true)) from w_eq_bool (w_res rfl) w_lit) rfl
theorem attach_call {l : OpenLaw} {n : Nat} {q : Program} {loose : List Str} {XP : (Str->Option Value)->Heap->Prop} {YP : World->Heap->Prop} {d : DefRec}
  (hn : l.most = some n) (hdf : d.params.defaults = [])
  (call : ∀ (w : World) (s₀ s₁ : Shared) (mg mb : Str->Option Value) (fa : Addr) (o : Obj) (pm cd doc : Value) (a : Addr) (vs : List Value) (ns : List Int),
   Ground q loose [] XP w s₀ mg mb s₁.heap->YP w s₁.heap->
   s₁.heap.get? fa = some o->o.data = .func (docDef d.name d.params d.body d.scope pm cd doc)->s₁.heap.CodeRec cd d.name->mg d.name = some (.ref fa)->
   s₁.heap.get? a = some { cls:=.type "list",data:=.seq vs.toArray }->IntsAre vs ns->ns.length <= n->s₁.gens = #[]->
   codeAny (model l.prog w) callerA (.call (.ref fa) ⟨[.ref a],[]⟩) (fun r s'=>r = .ok (.ret (.bool true)) /\ OldK s₁.heap s'.heap /\ s'.os = s₁.os /\ AllBare s'.gens) s₁) :
  WalkO q loose XP YP l.row.toRowW d [] (fun f vs=>PySem.call f vs):=by
 intro w s₀ s₁ mg mb G Y fa o pm cd doc dV kV ho hd hcd hD hmg hg args vals as hpre hlay hrd hwl hlo
 obtain rfl : dV = .none:=Dflts.none hD hdf
 obtain rfl : kV = .none:=Dflts.noKw hD
 obtain ⟨a,vs,ns,rfl,rfl,hobj,hints,hlen⟩:=Wo hn hpre hwl
 refine enter_call (codeAny_mono (call w s₀ s₁ mg mb fa o pm cd doc a vs ns G Y ho (fd_plain hd) hcd hmg hobj hints hlen hg) fun r s' hq=>?_)
 obtain ⟨rfl,h2,h3,h4⟩:=hq
 exact ⟨.inl ⟨.bool true,.bool true,[],rfl,fun _=>rfl,.bool true,Wq l _,fun _=>⟨List.Pairwise.nil,fun _ hm=>(nomatch hm)⟩⟩,h2,h3,h4⟩
section
variable {prog : Program} {w : World} {A : Around} {E : Value->Shared->Prop} {s : Shared} {K : Frag}
end
end Att
namespace L2
open PySem PySem.Spec PyProof.Rows
theorem jX : ∀ {vs : List Value} {ns : List Int},IntsAre vs ns->yn (ns.map V.int) vs
 | _,_,.nil=>.nil
 | _,_,.cons n t h=>.cons ⟨t,rfl⟩ (jX h)
def zb1 (H : Hp) : Prop:=∀ b,H b = none \/ ∃ o xs,H b = some (.frz o (.lst xs))
theorem Us {P : Program} {w : World} {K : PySem.W.Frag} {mg mb : Str->Option Value} {CX : CXT} {k : Nat} {fa a : Addr} {fd : FuncData} {x : Str} {sp : Sp} {s₁ : Shared} {vs : List Value} {ns : List Int}
  (KX : K.In s₁.heap) (hns : s₁.heap.Ns mainGlobals mg) (hb : s₁.heap.Ns builtinsNs mb) (hbb : ∀ x : Str,x ≠ "__name__"->mb x = bootBuiltins x) (hlim : s₁.heap.NoLimit) (hg : s₁.gens = #[])
  (ha : s₁.heap.get? a = some { cls:=.type "list",data:=.seq vs.toArray }) (hi : IntsAre vs ns) (hl : ns.length <= sizeLine) (hr : Room k callerA)
  (F : ∀ base : Heap,K.In base->base.Ns mainGlobals mg->FnOk P w K mg base CX k fa fd [x] sp) (hbind : ∀ (s : Shared) (u : Value),BindsTo s fd ⟨[u],[]⟩ [(x,u)])
  (hsp : ∀ H : Hp,zb1 H->SqL K H a (ns.map V.int)->sp [.ref a] H (fun v _=>v = .bl true) fun _ _ _=>False)
  (hCX : ∀ H e s',CX [] H s₁ (fun _ _ _=>False) e s'->False) :
  codeAny (model P w) callerA (.call (.ref fa) ⟨[.ref a],[]⟩) (fun r s'=>r = .ok (.ret (.bool true)) /\ OldK s₁.heap s'.heap /\ s'.os = s₁.os /\ AllBare s'.gens) s₁:=by
 have rv:=jX hi
 have lenV:=hi.length
 -- from an abstract heap in which nothing but the script may be tracked
 have core : ∀ H : Hp,zb1 H->SqL K H a (ns.map V.int)->HOk P w H s₁.heap->(∀ b,H b ≠ none->b = a)->(H a ≠ none->K.lookup a = none)->
   codeAny (model P w) callerA (.call (.ref fa) ⟨[.ref a],[]⟩) (fun r s'=>r = .ok (.ret (.bool true)) /\ OldK s₁.heap s'.heap /\ s'.os = s₁.os /\ AllBare s'.gens) s₁:=by
  intro H hO hS hok hA hK
  have base_of : ∀ {b : Addr} {o : Obj},s₁.heap.get? b = some o->H b = none->(Uf s₁.heap H).get? b = some o:=fun e n=>Ug e n
  have noA : ∀ {b : Addr} {o : Obj} {es : Array DictEntry} {ep : Nat},s₁.heap.get? b = some o->o.data = .dict es ep->H b = none:=fun {b o es ep} e d=>by
   cases q : H b with
   | none=>rfl
   | some u=>
    have e' : b = a:=hA b (by rw [q]; simp)
    subst e'
    rw [ha] at e; cases e
    have d' : Data.seq vs.toArray _ = Data.dict es ep:=d
    cases d'
  have nsK : ∀ {b : Addr} {m : Str->Option Value},s₁.heap.Ns b m->(Uf s₁.heap H).Ns b m:=fun {b m} ⟨o,es,ep,e,d,r⟩=>⟨o,es,ep,base_of e (noA e d),d,r⟩
  have hKb : K.In (Uf s₁.heap H):=fun b o e=>base_of (KX b o e) (by
   cases q : H b with
   | none=>rfl
   | some u=>
    have e' : b = a:=hA b (by rw [q]; simp)
    subst e'
    rw [hK (by rw [q]; simp)] at e; cases e)
  have hM : Mod K mg (Uf s₁.heap H):=⟨hKb,nsK hns,⟨mb,nsK hb,hbb⟩,let ⟨mc,h1,h2⟩:=hlim; ⟨mc,nsK h1,h2⟩⟩
  have e0 : Env0 P w K mg (Uf s₁.heap H) callerA [] s₁ H:=⟨rfl,hM,fun b o e=>Qn e,Nat.le_of_eq (XX _ _),trivial,fun b hb=>absurd (show b ∈ ([] : List Addr) from hb) (by simp),hok,.of_eq hg⟩
  refine codeAny_mono ((F _ hKb (nsK hns)).run callerA [] s₁ H ⟨[.ref a],[]⟩ [.ref a] [.ref a] _ _ hr e0 (hbind s₁ (.ref a)) (.cons rfl .nil) (hsp H hO hS)) fun r s' h=>?_
  cases r with
  | error e=>exact (hCX H e s' h).elim
  | ok fl=>
   cases fl with
   | next=>exact False.elim h
   | brk=>exact False.elim h
   | cont=>exact False.elim h
   | ret u=>
    obtain ⟨v,H',os,bare,un,hok',r',q⟩:=h
    have q' : v = .bl true:=q
    subst q'
    obtain rfl : u = Value.bool true:=r'
    refine ⟨rfl,OldK.of_keep fun b o e=>?_,os,bare⟩
    cases q : H b with
    | none=>exact un.keep b o e q (by intro z; exact absurd (show b ∈ ([] : List Addr) from z) (by simp)) (by simp)
    | some u=>
     rcases hO b with z | ⟨ob,xs,z⟩
     ·rw [q] at z; cases z
     ·have z2:=un.frzs b ob _ z
      obtain ⟨e1,_⟩:=hok b _ z
      obtain ⟨e2,_⟩:=hok' b _ z2
      rw [e] at e1; cases e1
      exact e2
 cases hk : K.lookup a with
 | some o=>
  -- the script is one of the module's own objects
  have e:=KX a o hk
  rw [ha] at e
  cases e
  refine core (fun _=>none) (fun _=>.inl rfl) (.inr ⟨_,vs.toArray,_,hk,rfl,rfl,rfl,by rw [List.size_toArray,lenV]; exact hl,by simpa using rv⟩) (fun b u z=>by have z' : (none : Option HO) = some u:=z; cases z') (fun b z=>absurd rfl z) fun z=>absurd rfl z
 | none=>
  refine core (fun b=>if b = a then some (.frz { cls:=.type "list",data:=.seq vs.toArray } (.lst (ns.map V.int))) else none) (fun b=>?_) (.inl (.inr ⟨{ cls:=.type "list",data:=.seq vs.toArray },if_pos rfl⟩)) (fun b u z=>?_) (fun b z=>?_) fun _=>hk
  ·by_cases hb : b = a
   ·exact .inr ⟨_,_,if_pos hb⟩
   ·exact .inl (if_neg hb)
  ·by_cases hb : b = a
   ·have z':=(if_pos hb).symm.trans z
    cases z'
    subst hb
    exact ⟨ha,by rw [List.length_map]; exact hl,vs,_,rv,ha⟩
   ·have z':=(if_neg hb).symm.trans z
    cases z'
  ·by_cases hb : b = a
   ·exact hb
   ·exact absurd (if_neg hb) z
theorem QF {l : PySem.W.OpenLaw} {n k : Nat} {q : Program} {loose : List Str} {XP : (Str->Option Value)->Heap->Prop} {YP : World->Heap->Prop} {d : DefRec} {K : Params->PySem.W.Frag} {CX : World->CXT} {sp : World->Sp} {x : Str}
  (hn : l.most = some n) (hn2 : n <= sizeLine) (hdf : d.params.defaults = []) (hr : Room k callerA)
  (hY : ∀ (w : World) (h : Heap),YP w h->(K w.params).In h)
  (F : ∀ (w : World) (mg : Str->Option Value) (fa : Addr) (h : Heap),(K w.params).In h->h.Ns mainGlobals mg->mg d.name = some (.ref fa)->
   ∃ fd : FuncData,(∀ (s : Shared) (u : Value),BindsTo s fd ⟨[u],[]⟩ [(x,u)]) /\
    ∀ base : Heap,(K w.params).In base->base.Ns mainGlobals mg->FnOk l.prog w (K w.params) mg base (CX w) k fa fd [x] (sp w))
  (hsp : ∀ (w : World) (H : Hp) (a : Addr) (ns : List Int),ns.length <= n->zb1 H->SqL (K w.params) H a (ns.map V.int)->sp w [.ref a] H (fun v _=>v = .bl true) fun _ _ _=>False)
  (hCX : ∀ (w : World) (H : Hp) (s : Shared) (e : Value) (s' : Shared),CX w [] H s (fun _ _ _=>False) e s'->False) :
  PySem.W.WalkO q loose XP YP l.row.toRowW d [] (fun f vs=>PySem.call f vs):=by
 refine Att.attach_call hn hdf fun w s₀ s₁ mg mb fa o pm cd doc a vs ns G Y ho hd hcd hmg hobj hints hlen hg=>?_
 have KX:=hY w _ Y
 obtain ⟨fd,hb,hF⟩:=F w mg fa _ KX G.T.g hmg
 exact Us KX G.T.g G.T.b G.T.builtins G.T.nolimit hg hobj hints (Nat.le_trans hlen hn2) hr hF hb (fun H hO hS=>hsp w H a ns hlen hO hS) fun H e s'=>hCX w H s₁ e s'
theorem walk_ofK {l : PySem.W.OpenLaw} {n k : Nat} {q : Program} {loose : List Str} {XP : (Str->Option Value)->Heap->Prop} {YP : World->Heap->Prop} {d : DefRec} {K : Params->PySem.W.Frag} {CX : CXT} {sp : PySem.W.Frag->Sp} {x : Str}
  (hn : l.most = some n) (hn2 : n <= sizeLine) (hdf : d.params.defaults = []) (hr : Room k callerA)
  (hY : ∀ (w : World) (h : Heap),YP w h->(K w.params).In h)
  (F : ∀ (w : World) (mg : Str->Option Value) (fa : Addr) (h : Heap),(K w.params).In h->h.Ns mainGlobals mg->mg d.name = some (.ref fa)->
   ∃ fd : FuncData,(∀ (s : Shared) (u : Value),BindsTo s fd ⟨[u],[]⟩ [(x,u)]) /\
    ∀ base : Heap,(K w.params).In base->base.Ns mainGlobals mg->FnOk l.prog w (K w.params) mg base CX k fa fd [x] (sp (K w.params)))
  (hsp : ∀ (K : PySem.W.Frag) (H : Hp) (a : Addr) (ns : List Int),ns.length <= n->zb1 H->SqL K H a (ns.map V.int)->sp K [.ref a] H (fun v _=>v = .bl true) fun _ _ _=>False)
  (hCX : ∀ (H : Hp) (s : Shared) (e : Value) (s' : Shared),CX [] H s (fun _ _ _=>False) e s'->False) :
  PySem.W.WalkO q loose XP YP l.row.toRowW d [] (fun f vs=>PySem.call f vs):=
 QF (K:=K) (CX:=fun _=>CX) (sp:=fun w=>sp (K w.params)) hn hn2 hdf hr hY F (fun w H a ns h1 h2 h3=>hsp (K w.params) H a ns h1 h2 h3) fun _ H s e s'=>hCX H s e s'
def xl (s : Stmt) : Arguments:=match s with
 | .FunctionDef _ a _ _ _ _ _ _ _ _=>a
 | _=>{ posonlyargs:=[],args:=[],vararg:=none,kwonlyargs:=[],kw_defaults:=[],kwarg:=none,defaults:=[] }
def yB (s : Stmt) : List Stmt:=match s with
 | .FunctionDef _ _ b _ _ _ _ _ _ _=>b
 | _=>[]
def zk (s : Stmt) : Scope:=match s with
 | .FunctionDef _ _ _ _ _ _ sc _ _ _=>sc
 | _=>{ kind:=.function,names:=[],isGenerator:=false,isCoroutine:=false }
abbrev CX0 : CXT:=fun _ _ _ _ _ _=>False
abbrev E0 : XK:=fun _ _ _=>False
theorem QG {X : Cx} : Wf CX0 X E0:=fun _ _ _ _ _ _ _ h=>h.elim
structure Fun (K : PySem.W.Frag) (x qual : Str) (st : Stmt) (f : Addr) (fd : FuncData) : Prop where
 ex : ∃ (oc : Value) (od : Option Addr) (kV doc pm : Value) (an : Option Addr) (cdv ct : Value) (osl : Array (Option Value)),
  fd = PySem.W.fnOf x qual (xl st) (yB st) (zk st) .none kV doc pm an cdv ct /\ K.lookup f = some ⟨oc,od,.func fd,osl⟩ /\ PySem.W.codeIn K cdv qual = true
 kp : PySem.W.keepIn K (.ref f) = true
section
variable {P : Program} {w : World} {K : PySem.W.Frag} {mg : Str->Option Value} {base : Heap}
theorem Fun.ok {x qual : Str} {st : Stmt} {f : Addr} {fd : FuncData} {N ps : List Str} {k : Nat} {sp : Sp} (F : Fun K x qual st f fd) (S : FnScope N ps (zk st)) (len : ∀ vs H Q E,sp vs H Q E->vs.length = ps.length)
  (hbody : ∀ (cdv : Value) (A : Around) (outer : List Env) (s : Shared) (H : Hp) (vs : List V) (Q : VK) (E : XK),Room k (A.deeper (envOfC qual (zk st) s.heap.objs.size f cdv))->sp vs H Q E->
   ∃ t,PSs (Qz CX0 P w K mg base N qual (zk st) f cdv A outer s H E).nox (yB st) t /\ t { nx:=fun _ H'=>Q .non H',rt:=Q } (vH N vs) H) : FnOk P w K mg base CX0 (k + 1) f fd ps sp:=by
 obtain ⟨oc,od,kV,doc,pm,an,cdv,ct,osl,rfl,lk,hcd⟩:=F.ex
 refine zcs lk hcd S len fun A outer s H vs Q E hr hsp=>?_
 obtain ⟨t,h,q⟩:=hbody cdv A outer s H vs Q E hr hsp
 exact ⟨t,h.nox,q⟩
theorem Fun.binds {x qual : Str} {st : Stmt} {f : Addr} {fd : FuncData} {ps : List Str} (F : Fun K x qual st f fd)
  (h : ∀ (kV doc pm : Value) (an : Option Addr) (cdv ct : Value) (us : List Value),us.length = ps.length->bindArgs (PySem.W.fnOf x qual (xl st) (yB st) (zk st) .none kV doc pm an cdv ct) ⟨us,[]⟩ = pure (ps.zip us)) : Zx K fd ps []:=by
 obtain ⟨oc,od,kV,doc,pm,an,cdv,ct,osl,rfl,lk,hcd⟩:=F.ex
 exact .all (h kV doc pm an cdv ct)
theorem zaC {x qual : Str} {st : Stmt} {f : Addr} {oc : Value} {od an : Option Addr} {osl : Array (Option Value)} {kV doc pm cdv ct : Value} (l : K.lookup f = some ⟨oc,od,.func (PySem.W.fnOf x qual (xl st) (yB st) (zk st) .none kV doc pm an cdv ct),osl⟩)
  (c : PySem.W.codeIn K cdv qual = true) (k : PySem.W.keepIn K (.ref f) = true) : Fun K x qual st f (PySem.W.fnOf x qual (xl st) (yB st) (zk st) .none kV doc pm an cdv ct):=⟨⟨oc,od,kV,doc,pm,an,cdv,ct,osl,rfl,l,c⟩,k⟩
end
section
variable {X : Cx}
theorem pv (i : Nat) {x : Str} {pos : Pos} (hN : X.N[i]? = some x:=by rfl) (hv : Vis X.env.scope x:=by first | exact Or.inl rfl | exact Or.inr (Or.inl rfl) | exact Or.inr (Or.inr rfl)) (hd : (x == ("__debug__" : Str)) = false:=by decide)
  (hcd : (x == ("__classdict__" : Str)) = false:=by decide) : PE X (.Name x pos) (zb0 i):=wW hN hv hd hcd
end
def zW (H H' : Hp) : Prop:=∀ b o,H b = some o->H' b = some o
theorem zW.refl (H : Hp) : zW H H:=fun _ _ h=>h
theorem zW.trans {H H1 H2 : Hp} (a : zW H H1) (b : zW H1 H2) : zW H H2:=fun c o h=>b c o (a c o h)
theorem zW.free {H H' : Hp} (e : zW H H') {l : Addr} (h : H' l = Option.none) : H l = Option.none:=by
 cases q : H l with
 | none=>rfl
 | some o=>
  rw [e l o q] at h
  cases h
end L2
set_option maxHeartbeats 4000000
namespace L2
open PySem PySem.Spec PyProof.Rows
def Its (x : Str) : It:=⟨fun i _=>i < x.cps.size,fun i H v H'=>H' = H /\ ∃ c,x.cps[i]? = some c /\ v = .str ⟨#[c]⟩,fun i _=>i = x.cps.size⟩
theorem zaD {M : Model} {A : Around} {E : Value->Shared->Prop} {s : Shared} {tg : Expr} {it : Addr} {y : Str} {t : Tok} {Q : Unit->Shared->Prop} (hQ : Q () s) : wpAny M A (letOwnedTupleGo tg (.ref it) (.str y t)) Q E s:=by
 unfold letOwnedTupleGo
 cases tg <;> exact wpAny_pure hQ
theorem Yq {P : Program} {w : World} {K : PySem.W.Frag} {tg : Expr} (T : String) (it : Addr) (x : Str) (t : Tok)
  (W : ∀ A : Around,A.handled = none->Walks P w A it [it] [it] x.cps.size (SignAt x) (fun i h=>h.IsStrIter it T x t i))
  (hs : ∀ (A : Around) (i : Nat) (s : Shared) (Q : Value->Shared->Prop) (E : Value->Shared->Prop),s.heap.IsStrIter it T x t i->Q (.ref it) s->wpAny (model P w) A (pyIter (.ref it)) Q E s) :
  Turn P w K tg (Its x) [it] it (fun i h=>h.IsStrIter it T x t i) where
 mem:=by simp
 obj:=fun i h st b hb=>by
  have e : b = it:=by simpa using hb
  subst e
  obtain ⟨o,e,c,d⟩:=st
  exact ⟨o,e,fun v z=>by rw [d] at z; cases z⟩
 keep:=fun i h h' st k=>by
  obtain ⟨o,e,r⟩:=st
  exact ⟨o,k it (by simp) o e,r⟩
 item:=by
  intro X hP hw hK hc i pins s σ H E I hf st hg
  subst hP hw hK
  obtain ⟨f0,f1,f2,f3,f4,f5⟩:=hf it (by simp)
  refine (W X.A (I.ok.hd hc)).item i s _ _ hg st fun v h' tk hv st' kk=>?_
  obtain ⟨c,u,hcu,rfl⟩:=hv
  have I1 : Inv X pins σ H { s with heap:=h',toks:=tk }:=I.turned (fun b o hb e=>kk b o (by simpa using hb) e) f0 f1 f3 f4 f5
  exact ⟨_,rfl,zaD ⟨.str ⟨#[c]⟩,H,I1,⟨u,rfl⟩,⟨rfl,c,hcu,rfl⟩,st',fun b hb=>(hf b hb).1⟩⟩
 done:=by
  intro X hP hw hK hc i pins s σ H E I hf st hg
  subst hP hw hK
  obtain ⟨f0,f1,f2,f3,f4,f5⟩:=hf it (by simp)
  have hg' : i = x.cps.size:=hg
  subst hg'
  refine (W X.A (I.ok.hd hc)).done s _ _ st fun h' tk kk=>?_
  exact ⟨rfl,I.turned (fun b o hb e=>kk b o (by simpa using hb) e) f0 f1 f3 f4 f5⟩
 self:=hs
section
variable {X : Cx} {tg : Expr}
end
section
variable {prog : Program} {w : World} {A : Around} {R : Result->Shared->Prop} {s : Shared}
theorem jY {elt target iter : Expr} {ifs : List Expr} {scope : Scope} {pos : Pos} {it acc : Value} {env : Env} (I : Nat->Shared->Prop)
  (turn : ∀ n s,I n s->wpAny (model prog w) A (pyNext it) (fun r s₁=>match r with
   | none=>R (.ok .next) s₁
   | some v=>wpAny (model prog w) A (letOwnedTupleGo target it v) (fun _ s₁'=>wpAny (model prog w) A (assign target env v) (fun _ s₂=>
     wpAny (model prog w) A (forIn ifs true fun c r=>if r = true then do let ok <- isTrue c env (eval c env); pure (ForInStep.yield ok) else pure (ForInStep.yield r)) (fun ok s₃=>
      if ok = true then wpAny (model prog w) A (eval elt env) (fun x s₄=>
       wpAny (model prog w) A (call (.builtin "list.append") [acc,x]) (fun _ s₅=>∃ m,m < n /\ I m s₅) (fun _ _=>False) s₄) (fun _ _=>False) s₃
      else ∃ m,m < n /\ I m s₃) (fun _ _=>False) s₂) (fun _ _=>False) s₁') (fun _ _=>False) s₁) (fun _ _=>False) s)
  (n : Nat) (h : I n s) :
  codeAny (model prog w) A (.compLoop (.ListComp elt [⟨target,iter,ifs,0⟩] scope pos) 0 it acc env) R s:=by
 refine codeAny_loop rfl I (fun n s hI=>?_) n h
 show wpAny _ A ((compTurn (.ListComp elt [⟨target,iter,ifs,0⟩] scope pos) 0 it acc env).onRaise (fun x=>do noteFrame x env; theTreesLotGoes x)) _ _ s
 refine wpAny_noted ?_
 rw [compTurn_list]
 refine wpAny_bind (wpAny_standAt (wpAny_bind (wpAny_mono (turn n s hI) (fun r s₁ h₁=>?_) fun _ _ h'=>h'.elim)))
 cases r with
 | none=>exact wpAny_pure h₁
 | some v=>
  refine wpAny_bind (wpAny_mono h₁ (fun _ s₁' h₁'=>?_) fun _ _ h'=>h'.elim)
  refine wpAny_bind (wpAny_mono h₁' (fun _ s₂ h₂=>wpAny_bind (wpAny_mono h₂ (fun ok s₃ h₃=>?_) fun _ _ h'=>h'.elim)) fun _ _ h'=>h'.elim)
  cases ok with
  | false=>exact wpAny_pure ⟨rfl,h₃⟩
  | true=>
   exact wpAny_bind (wpAny_bind (wpAny_mono h₃ (fun x s₄ h₄=>wpAny_bind (wpAny_mono h₄ (fun _ s₅ h₅=>wpAny_pure (wpAny_pure ⟨rfl,h₅⟩)) fun _ _ h'=>h'.elim)) fun _ _ h'=>h'.elim))
end
def z9 (X : Cx) (N : List Str) (scope : Scope) (cl : List (Str × Addr)) (C : Addr) (s₀ : Shared) (H₀ : Hp) (ex : List Addr) : Cx:=
 { X with N:=N,s₀:=s₀,H₀:=H₀,env:=compEnvC scope cl C X.env,outer:=X.stack,stack:=X.stack,ex:=ex,fn:=fun _=>false,pn:=[],xe:=fun _ _=>False }
def TB (X : Cx) (ifs : List Expr) (t : TT) : Prop:=
 ∀ (pins : List (Addr × Obj)) (s : Shared) (σ : St) (H : Hp) (Q : Bool->Hp->Prop),Inv X pins σ H s->t σ H Q->
  wpAny (model X.prog X.w) X.A (forIn ifs true fun c r=>if r = true then do let ok <- isTrue c X.env (eval c X.env); pure (ForInStep.yield ok) else pure (ForInStep.yield r)) (TP X pins σ Q) X.xe s
def tYes : TT:=fun _ H Q=>Q true H
theorem Yr {X : Cx} : TB X [] tYes:=fun pins s σ H Q I h=>wpAny_tests_nil ⟨H,I,h⟩
theorem Ut {X : Cx} {c : Expr} {t : TT} (h : PT X c t) : TB X [c] t:=fun pins s σ H Q I hq=>wpAny_tests_one (h pins s σ H Q I hq)
def Wr (wi : TI) (cs : St->St) (g : TG) (ti : TT) (te : TE) : TE:=fun σ H Q=>wi σ H fun J H1=>∃ W : Nat->Nat->List V->Hp->Prop,(∃ m,W 0 m [] H1) /\ ∀ i m ys H,W i m ys H->
 ys.length <= sizeLine /\ ((J.stop i H /\ ∀ p,H p = none->Q (.ref p) (upd H p (.lst ys))) \/
 (J.go i H /\ ∀ x H',J.yld i H x H'->g x (cs σ) H' fun σ2 H2=>ti σ2 H2 fun ok H3=>if ok = true then te σ2 H3 fun y H4=>∃ m',m' < m /\ W (i + 1) m' (ys++[y]) H4 else ∃ m',m' < m /\ W (i + 1) m' ys H3))
def vG (nl : Nat) (js : List Nat) (σ : St) : St:=List.replicate nl none++js.map fun j=>(σ[j]?).join
structure CompOk (X : Cx) (N : List Str) (nl : Nat) (js : List Nat) (scope : Scope) (cl : List (Str × Addr)) : Prop where
 clos : closureFor scope X.env = pure cl
 nocell : ∀ y ∈ scope.names,y.2 ≠ .cell
 kind : scope.kind = .function
 names : ∀ y ∈ scope.names,y.2 = .local->scope.names.lookup y.1 = some .local
 cells : ∀ x c,cl.lookup x = some c->X.env.cells.lookup x = some c
 has : ∀ x,((relabel scope X.env).names.lookup x = some .cell \/ (relabel scope X.env).names.lookup x = some .free)->∃ c,cl.lookup x = some c
 len : N.length = nl + js.length
 free : ∀ k j x,js[k]? = some j->N[nl + k]? = some x->X.N[j]? = some x /\ (X.env.kindOf x = some .cell \/ X.env.kindOf x = some .free) /\ Vis X.env.scope x /\
  ((relabel scope X.env).names.lookup x = some .cell \/ (relabel scope X.env).names.lookup x = some .free)
 /-- the target stores own names alone -/
def Ys (g : TG) (cs : St->St) : Prop:=∀ (σ : St) (x : V) (H : Hp) (K : St->Hp->Prop),g x (cs σ) H K->g x (cs σ) H fun σ2 H2=>(σ2.length = (cs σ).length /\ ∀ (j : Nat) (v : V),(cs σ)[j]? = some (some v)->σ2[j]? = some (some v)) /\ K σ2 H2
theorem vI {i nl : Nat} {js : List Nat} (hi : i < nl) : Ys (jK i) (vG nl js):=fun σ x H K h=>by
 refine ⟨⟨by simp,fun j v e=>?_⟩,h⟩
 by_cases hj : j = i
 ·subst hj
  unfold vG at e
  rw [List.getElem?_append_left (by simpa using hi),List.getElem?_replicate,if_pos hi] at e
  cases e
 ·rw [List.getElem?_set_ne (Ne.symm hj)]; exact e
section
variable {X : Cx}
theorem Inv.comp {pins : List (Addr × Obj)} {σ : St} {H : Hp} {s s4 : Shared} {N : List Str} {nl : Nat} {js : List Nat} {scope : Scope} {cl : List (Str × Addr)} {C D : Addr} {fp : List Addr} {oD : Obj} {m : Str->Option Value}
  (I : Inv X pins σ H s) (ok : CompOk X N nl js scope cl) (hf : ∀ b ∈ fp,Uk X pins H b) (hfp : ∀ b ∈ fp,b < s.heap.objs.size) (hC : s.heap.objs.size <= C) (hD : s.heap.objs.size <= D) (hDC : D ≠ C)
  (ho : s4.os = s.os) (hg : AllBare s4.gens) (k : ∀ b o,s.heap.get? b = some o->s4.heap.get? b = some o) (hn : s4.heap.Ns C m) (hDo : s4.heap.get? D = some oD) (hDd : ∀ v,oD.data ≠ .cell v) :
  Inv (z9 X N scope cl C s H fp) [(D,oD)] (vG nl js σ) H s4:=by
 have stk : ∀ b,s.heap.objs.size <= b->b ∉ frs X.stack:=fun b hb z=>by
  rcases List.mem_cons.mp (I.stkSub b z) with e | e
  ·rw [e] at hb; exact absurd (Nat.lt_of_lt_of_le I.lt hb) (Nat.lt_irrefl _)
  ·exact I.nofs hb e
 refine ⟨⟨I.ok.mod,ok.kind,I.ok.glob,I.ok.blt,hC,fun x y c h1 h2=>I.ok.inj x y c (ok.cells x c h1) (ok.cells y c h2),fun x h=>ok.has x h,(fun x c h=>nomatch h),I.ok.hd,I.ok.frames,.inl rfl,fun b hb=>⟨?_,fun x c e z=>?_⟩,I.bs,Nat.le_trans I.ok.bsz I.sz,fun b o e hb=>?_,fun b hb=>?_,I.stack,I.stkFree⟩,
  ho,hg,Un.kept k,⟨m,hn,fun i x v h1 h2 h3=>?_⟩,fun x c e=>?_,I.hok.fresh hC,fun x c e=>I.freeC x c (ok.cells x c e),fun p hp=>?_,I.hok.kept k,?_⟩
 ·exact Nat.ne_of_lt (Nat.lt_of_lt_of_le (hfp b hb) hC)
 ·exact (hf b hb).2.2.2.2.1 x c (ok.cells x c e) z
 ·have hb : b ∈ fp:=hb
  rcases (hf b hb).2.2.2.1 with z | z
  ·exact I.ok.noex b o e z
  ·exact absurd (Nat.lt_of_lt_of_le (Heap.lt_size e) (Nat.le_trans I.ok.bsz z)) (Nat.lt_irrefl _)
 ·have hb : b ∈ fp:=hb
  intro z
  rcases List.mem_cons.mp (I.stkSub b z) with e | e
  ·exact (hf b hb).2.1 e
  ·exact (hf b hb).2.2.1 e
 ·have h1 : N[i]? = some x:=h1
  unfold vG at h2
  have hi : nl <= i:=by
   rcases Nat.lt_or_ge i nl with z | z
   ·rw [List.getElem?_append_left (by simpa using z),List.getElem?_replicate,if_pos z] at h2; cases h2
   ·exact z
  rw [List.getElem?_append_right (by simpa using hi),List.length_replicate,List.getElem?_map] at h2
  cases ej : js[i - nl]? with
  | none=>rw [ej] at h2; cases h2
  | some j=>
   rw [ej] at h2
   have h2' : (σ[j]?).join = some v:=by simpa using h2
   have e2 : σ[j]? = some (some v):=by
    cases q : σ[j]? with
    | none=>rw [q] at h2'; cases h2'
    | some y=>rw [q] at h2'; rw [show y = some v from h2']
   obtain ⟨g1,g2,g3,g4⟩:=ok.free (i - nl) j x ej (by rw [Nat.add_sub_cancel' hi]; exact h1)
   obtain ⟨m0,hn0,hl⟩:=I.loc
   obtain ⟨u,r,l⟩:=hl j x v g1 e2 g3
   refine ⟨u,r,.inr ⟨g4,?_⟩⟩
   rcases l with ⟨lk,_⟩ | ⟨_,c,ec,ic⟩
   ·rcases g2 with z | z <;> (rw [z] at lk; cases lk)
   ·obtain ⟨c',ec'⟩:=ok.has x g4
    have : c' = c:=Option.some.inj ((ok.cells x c' ec').symm.trans ec)
    subst this
    obtain ⟨oc,hoc,hd⟩:=ic
    exact ⟨c',ec',oc,k _ _ hoc,hd⟩
 ·obtain ⟨v,oc,hoc,hd⟩:=I.cell x c (ok.cells x c e)
  exact ⟨v,oc,k _ _ hoc,hd⟩
 ·have hp : p ∈ [(D,oD)]:=hp
  have e : p = (D,oD):=by simpa using hp
  subst e
  exact ⟨hDo,I.hok.fresh hD,hDC,stk D hD,hDd⟩
 ·show (vG nl js σ).length = N.length
  unfold vG
  rw [List.length_append,List.length_replicate,List.length_map]
  exact ok.len.symm
def QH (X : Cx) (pins : List (Addr × Obj)) (σ : St) (Q : VK) (acc : Value) (C : Addr) (s' : Shared) : Prop:=
 ∃ D H' m,acc = .ref D /\ Inv X pins σ H' s' /\ Uk X pins H' C /\ s'.heap.Ns C m /\ Q (.ref D) H'
theorem Yt {N : List Str} {nl : Nat} {js : List Nat} {scope : Scope} {cl : List (Str × Addr)} {elt target iter : Expr} {ifs : List Expr} {pos : Pos} {wi : TI} {g : TG} {ti : TT} {te : TE} {pins : List (Addr × Obj)} {s : Shared} {σ : St} {H : Hp} {Q : VK}
  {E : Value->Shared->Prop} (RR : Value->Addr->Result->Shared->Prop) (hRR : ∀ acc C s',QH X pins σ Q acc C s'->RR acc C (.ok .next) s')
  (hc : X.calm = true) (ok : CompOk X N nl js scope cl) (hi : PI X target iter wi) (hk : Ys g (vG nl js))
  (hg : ∀ C s₀ H₀ ex,PG (z9 X N scope cl C s₀ H₀ ex) target g) (ht : ∀ C s₀ H₀ ex,TB (z9 X N scope cl C s₀ H₀ ex) ifs ti) (he : ∀ C s₀ H₀ ex,PE (z9 X N scope cl C s₀ H₀ ex) elt te)
  (I : Inv X pins σ H s) (h : Wr wi (vG nl js) g ti te σ H Q) :
  wpAny (model X.prog X.w) X.A (eval iter X.env) (fun x s₁=>wpAny (model X.prog X.w) X.A (pyIter x) (fun it s₂=>wpAny (model X.prog X.w) X.A (newList []) (fun acc s₃=>
   wpAny (model X.prog X.w) X.A (newFunctionEnv scope X.env.globals cl [] X.env.qual none .none (some X.env)) (fun cenv s₄=>
    codeAny (model X.prog X.w) X.A (.compStart (.ListComp elt [⟨target,iter,ifs,0⟩] scope pos) 0 it acc { cenv with scope:=relabel scope X.env }) (RR acc cenv.locals) s₄) E s₃) E s₂) X.xe s₁) X.xe s:=by
 refine thn (hi pins s σ H _ I h) fun v s1 h1=>thn h1 fun itv s2 h2=>?_
 obtain ⟨it,fp,tn,J,H2,e,I2,T,st2,f2,W,⟨m0,w0⟩,turn⟩:=h2
 subst e
 have hfp : ∀ b ∈ fp,b < s2.heap.objs.size:=fun b hb=>by
  obtain ⟨o,e,_⟩:=T.obj _ _ st2 b hb
  exact Heap.lt_size e
 refine wpAny_newObj_type (wpAny_newFunctionEnv ok.nocell (by intro y hy; simp at hy) (fun h₁ hns₁ hsb₁=>?_) ok.kind)
 dsimp only at hns₁ hsb₁ ⊢
 generalize hP2 : s2.heap.push { cls:=.type "list",dict:=none,data:=.seq ([] : List Value).toArray } = P2 at hns₁ hsb₁ ⊢
 have hC : P2.objs.size = s2.heap.objs.size + 1:=by rw [<- hP2,Heap.size_push]
 have hDC : s2.heap.objs.size ≠ P2.objs.size:=by rw [hC]; exact Nat.ne_of_lt (Nat.lt_succ_self _)
 have hCle : s2.heap.objs.size <= P2.objs.size:=by rw [hC]; exact Nat.le_succ _
 have below : ∀ b,b < s2.heap.objs.size->b ≠ P2.objs.size /\ b ≠ s2.heap.objs.size:=fun b hb=>⟨by rw [hC]; exact Nat.ne_of_lt (Nat.lt_succ_of_lt hb),Nat.ne_of_lt hb⟩
 have old : ∀ b o,s2.heap.get? b = some o->h₁.get? b = some o:=fun b o e=>hsb₁.extBut b o (below b (Heap.lt_size e)).1 (Heap.get?_push_of_some _ (hP2 ▸ Heap.get?_push_of_some _ e))
 have hacc : h₁.PlainList s2.heap.objs.size #[]:=⟨_,hsb₁.extBut _ _ hDC (Heap.get?_push_of_some _ (hP2 ▸ Heap.get?_push_size _ rfl))⟩
 obtain ⟨n0,ha0⟩:=hacc
 generalize hCC : P2.objs.size = C at *
 generalize hDD : s2.heap.objs.size = D at *
 -- the block's context
 have I4 : Inv (z9 X N scope cl C s2 H2 fp) [(D,{ cls:=.type "list",data:=.seq ([] : List Value).toArray n0 })] (vG nl js σ) H2 { s2 with heap:=h₁,toks:=s2.toks + ([] : List (Str × Value)).length }:=
  I2.comp ok f2 (fun b hb=>by rw [hDD]; exact hfp b hb) (by rw [hDD]; exact hCle) (by rw [hDD]; exact Nat.le_refl _) hDC rfl I2.bare old hns₁ ha0 (fun v z=>nomatch z)
 have st4 : tn 0 h₁:=T.keep _ _ _ st2 fun b hb o e=>old b o e
 -- what stays true of the records
 have nD : ∀ b ∈ fp,b ≠ D:=fun b hb=>Nat.ne_of_lt (hfp b hb)
 have nC : ∀ b ∈ fp,b ≠ C:=fun b hb=>(below b (hfp b hb)).1
 have stkD : ∀ b,D <= b->b ∉ frs X.stack:=fun b hb z=>by
  rcases List.mem_cons.mp (I2.stkSub b z) with e | e
  ·rw [e] at hb; exact absurd (Nat.lt_of_lt_of_le I2.lt (by rw [hDD]; exact hb)) (Nat.lt_irrefl _)
  ·exact I2.nofs (by rw [hDD]; exact hb) e
 have cellD : ∀ x c b,D <= b->cl.lookup x = some c->c ≠ b:=fun x c b hb e z=>by
  obtain ⟨v,q⟩:=I2.cell x c (ok.cells x c e)
  exact absurd (Nat.lt_of_lt_of_le q.lt (by rw [z,hDD]; exact hb)) (Nat.lt_irrefl _)
 have stat : ∀ {H' : Hp} {oD : Obj},(∀ b ∈ fp,H' b = none)->∀ b ∈ fp,Uk (z9 X N scope cl C s2 H2 fp) [(D,oD)] H' b:=fun {H' oD} hn b hb=>by
  refine ⟨hn b hb,nC b hb,fun z=>?_,.inl hb,fun x c e z=>(f2 b hb).2.2.2.2.1 x c (ok.cells x c e) z,fun p hp z=>?_⟩
  ·have z : b ∈ frs X.stack:=z
   rcases List.mem_cons.mp (I2.stkSub b z) with e | e
   ·exact (f2 b hb).2.1 e
   ·exact (f2 b hb).2.2.1 e
  ·have hp : p = (D,oD):=by simpa [z9] using hp
   subst hp
   exact nD b hb z.symm
 have loop : ∀ s₃ : Shared,s₃ = { s2 with heap:=h₁,toks:=s2.toks + ([] : List (Str × Value)).length }->
   codeAny (model X.prog X.w) X.A (.compLoop (.ListComp elt [⟨target,iter,ifs,0⟩] scope pos) 0 (.ref it) (.ref D) (compEnvC scope cl C X.env)) (RR (.ref D) C) s₃:=by
  rintro s₃ rfl
  refine jY (env:=compEnvC scope cl C X.env) (fun n s'=>∃ i ys us nn H',Inv (z9 X N scope cl C s2 H2 fp) [(D,{ cls:=.type "list",data:=.seq (us : List Value).toArray nn })] (vG nl js σ) H' s' /\ yn ys us /\ tn i s'.heap /\ (∀ b ∈ fp,H' b = none) /\ W i n ys H')
   ?_ m0 ⟨0,[],[],n0,H2,I4,.nil,st4,fun b hb=>(f2 b hb).1,w0⟩
  rintro n s3 ⟨i,ys,us,nn,H3,I3,rv3,st3,fr3,w3⟩
  obtain ⟨hsz,tr⟩:=turn i n ys H3 w3
  rcases tr with ⟨stop,qn⟩ | ⟨go,step⟩
  ·refine wpAny_mono (T.done (z9 X N scope cl C s2 H2 fp) rfl rfl rfl hc i _ s3 (vG nl js σ) H3 (fun _ _=>False) I3 (stat fr3) st3 stop) (fun r s4 hr=>?_) fun _ _ z=>z
   obtain ⟨rfl,J4⟩:=hr
   show RR (.ref D) C (.ok .next) s4
   obtain ⟨pD,pfree,_,_,_⟩:=J4.pin (D,{ cls:=.type "list",data:=.seq (us : List Value).toArray nn }) (by simp [z9])
   obtain ⟨mC,hnC,_⟩:=J4.loc
   have hnC : s4.heap.Ns C mC:=hnC
   have ltH : ∀ b o,H2 b = some o->b ≠ D:=fun b o e=>by have:=I2.hok.lt e; rw [hDD] at this; exact Nat.ne_of_lt this
   have ltg : ∀ b o,s2.heap.get? b = some o->b ≠ D:=fun b o e=>by have:=Heap.lt_size e; rw [hDD] at this; exact Nat.ne_of_lt this
   have B : Un (frs X.stack) fp H2 H3 s2.heap s4.heap:=J4.base
   have un : Un (frs X.stack) fp H2 (upd H3 D (.lst ys)) s2.heap s4.heap:=
    ⟨B.keep,B.slot,fun b o e n x=>by rw [zR (ltg b o e)]; exact B.free b o e n x,B.there,fun b xs e=>by rw [zR (ltH b _ e)]; exact B.tups b xs e,
     fun b o u e=>by rw [zR (ltH b _ e)]; exact B.frzs b o u e,fun b ps e=>by rw [zR (ltH b _ e)]; exact B.tbls b ps e⟩
   have hokD : HOk X.prog X.w (upd H3 D (.lst ys)) s4.heap:=fun b u e=>by
    by_cases hb : b = D
    ·subst hb
     rw [yh] at e
     cases e
     exact ⟨hsz,us,nn,rv3,pD⟩
    ·rw [zR hb] at e
     refine (J4.hok b u e).stay (fun c v _ q=>q) (fun c q=>?_) fun c xs q=>?_
     ·rw [zR (zY q pfree)]; exact q
     ·rw [zR (zY q pfree)]; exact q
   refine hRR _ _ _ ⟨D,upd H3 D (.lst ys),mC,rfl,I2.call' (ch:=fp) J4.os un hokD J4.bare (fun b hb=>⟨(f2 b hb).2.2.2.1,(f2 b hb).2.1,(f2 b hb).2.2.2.2.1,(f2 b hb).2.2.2.2.2⟩),?_,hnC,qn D pfree⟩
   have hCn : H3 C = none:=J4.free
   refine ⟨by rw [zR hDC.symm]; exact hCn,?_,?_,.inr ?_,fun x c e z=>?_,fun p hp z=>?_⟩
   ·exact Nat.ne_of_gt (Nat.lt_of_lt_of_le I2.lt (by rw [hDD]; exact hCle))
   ·exact I2.nofs (by rw [hDD]; exact hCle)
   ·exact Nat.le_trans I2.sz (by rw [hDD]; exact hCle)
   ·obtain ⟨v,q⟩:=I2.cell x c e
    exact absurd (Nat.lt_of_lt_of_le q.lt (by rw [z,hDD]; exact hCle)) (Nat.lt_irrefl _)
   ·exact absurd (Nat.lt_of_lt_of_le (Heap.lt_size (I2.pin p hp).1) (by rw [z,hDD]; exact hCle)) (Nat.lt_irrefl _)
  ·refine wpAny_mono (T.item (z9 X N scope cl C s2 H2 fp) rfl rfl rfl hc i _ s3 (vG nl js σ) H3 (fun _ _=>False) I3 (stat fr3) st3 go) (fun r s4 hr=>?_) fun _ _ z=>z
   obtain ⟨u,rfl,h4⟩:=hr
   show wpAny (model X.prog X.w) X.A (letOwnedTupleGo target (.ref it) u) _ _ s4
   refine thn h4 fun _ s5 ⟨x,H5,I5,r5,y5,st5,fr5⟩=>?_
   have I5':=I5.pinned (stat fr5) (T.obj _ _ st5)
   refine thn (hg C s2 H2 fp _ s5 (vG nl js σ) H5 x u _ I5' r5 (hk σ x H5 _ (step x H5 y5))) fun _ s6 ⟨σ6,H6,I6,⟨hl6,hs6⟩,q6⟩=>?_
   refine thn (ht C s2 H2 fp _ s6 σ6 H6 _ I6 q6) fun okb s7 ⟨H7,I7,q7⟩=>?_
   -- the iterator and the list are pinned through
   have back : ∀ {H8 : Hp} {s8 : Shared},Inv (z9 X N scope cl C s2 H2 fp) ([(D,{ cls:=.type "list",data:=.seq (us : List Value).toArray nn })]++jL fp s5.heap) σ6 H8 s8->
     Inv (z9 X N scope cl C s2 H2 fp) [(D,{ cls:=.type "list",data:=.seq (us : List Value).toArray nn })] (vG nl js σ) H8 s8 /\ tn (i + 1) s8.heap /\ ∀ b ∈ fp,H8 b = none:=fun {H8 s8} I8=>by
    refine ⟨I8.unpinned.weak hl6.symm hs6,T.keep _ _ _ st5 fun b hb o e=>(I8.pin (b,o) (List.mem_append_right _ (List.mem_append_right _ (wt hb e)))).1,fun b hb=>?_⟩
    obtain ⟨o,e,d⟩:=T.obj _ _ st5 b hb
    exact (I8.pin (b,o) (List.mem_append_right _ (List.mem_append_right _ (wt hb e)))).2.1
   cases okb with
   | false=>
    have q7 : ∃ m',m' < n /\ W (i + 1) m' ys H7:=by simpa using q7
    obtain ⟨m',hm,w7⟩:=q7
    obtain ⟨I8,st8,fr8⟩:=back I7
    show ∃ m,m < n /\ _
    exact ⟨m',hm,i + 1,ys,us,nn,H7,I8,rv3,st8,fr8,w7⟩
   | true=>
    have q7 : te σ6 H7 fun y H4=>∃ m',m' < n /\ W (i + 1) m' (ys++[y]) H4:=by simpa using q7
    show wpAny (model X.prog X.w) X.A (eval elt (compEnvC scope cl C X.env)) _ _ s7
    refine thn (he C s2 H2 fp _ s7 σ6 H7 _ I7 q7) fun yv s8 ⟨y,H8,I8,ry,m',hm,w8⟩=>?_
    obtain ⟨I9,st9,fr9⟩:=back I8
    obtain ⟨pD,pfree,pne,pnf,_⟩:=I9.pin (D,{ cls:=.type "list",data:=.seq (us : List Value).toArray nn }) (by simp [z9])
    refine wpAny_list_append_plain (items:=us.toArray) ⟨nn,pD⟩ (fun h' hp' sb=>?_) (by have:=rv3.length; simp; omega)
    obtain ⟨n',hp'⟩:=hp'
    have I10 : Inv (z9 X N scope cl C s2 H2 fp) [] (vG nl js σ) H8 { s8 with heap:=h' }:=by
     refine (I9.pins_of (pins':=[]) (fun p hp=>absurd hp (by simp))).turned (t':=s8.toks) (it:=D) (fun b o hb e=>(sb.2 b hb).trans e) pfree pne (.inr (by show s2.heap.objs.size <= D; rw [hDD]; exact Nat.le_refl _)) (fun x c e=>cellD x c D (Nat.le_refl _) e) (fun p hp=>?_)
     exact absurd hp (by simp [z9])
    refine ⟨m',hm,i + 1,ys++[y],us++[yv],n',H8,I10.pins_of (fun p hp=>?_),rv3.append (.cons ry .nil),T.keep _ _ _ st9 fun b hb o e=>(sb.2 b (nD b hb)).trans e,fr9,w8⟩
    have e : p = (D,{ cls:=.type "list",data:=.seq (us++[yv]).toArray n' }):=by simpa using hp
    subst e
    exact ⟨by simpa using hp',pfree,pne,pnf,fun v z=>nomatch z⟩
 exact codeAny_compStart_list (loop _ rfl) (T.self _ 0 _ _ _ st4 (loop _ rfl))
theorem Ws {N : List Str} {nl : Nat} {js : List Nat} {scope : Scope} {cl : List (Str × Addr)} {elt target iter : Expr} {ifs : List Expr} {pos : Pos} {wi : TI} {g : TG} {ti : TT} {te : TE}
  (hc : X.calm = true) (ok : CompOk X N nl js scope cl) (hi : PI X target iter wi) (hk : Ys g (vG nl js))
  (hg : ∀ C s₀ H₀ ex,PG (z9 X N scope cl C s₀ H₀ ex) target g) (ht : ∀ C s₀ H₀ ex,TB (z9 X N scope cl C s₀ H₀ ex) ifs ti) (he : ∀ C s₀ H₀ ex,PE (z9 X N scope cl C s₀ H₀ ex) elt te)
  (hs : ∀ x,foldedSetIterable iter X.env x = pure x:=by intro _; rfl) :
  PE X (.ListComp elt [⟨target,iter,ifs,0⟩] scope pos) (Wr wi (vG nl js) g ti te):=by
 intro pins s σ H Q I h
 rw [eval_ListComp]
 refine wpAny_comprehension_free (use:=none) rfl hs ok.clos ok.kind ok.names (wpAny_mono (Yt (E:=X.xe) (pos:=pos) (fun acc C=>compPost (model X.prog X.w) X.A X.xe none (EP X pins σ Q) acc C) (fun acc C s' z=>?_) hc ok hi hk hg ht he I h) (fun _ _ z=>z) fun _ _ z=>z)
 obtain ⟨D,H',m,rfl,J,fC,hn,q⟩:=z
 refine ⟨m,hn,fun h' sb=>⟨.ref D,H',J.turned (t':=s'.toks) (fun b o hb e=>(sb.2 b hb).trans e) fC.1 fC.2.1 fC.2.2.2.1 fC.2.2.2.2.1 fC.2.2.2.2.2,rfl,q⟩⟩
theorem Xi {N : List Str} {nl : Nat} {js : List Nat} {scope : Scope} {cl : List (Str × Addr)} {elt target iter : Expr} {ifs : List Expr} {pos spos py : Pos} {wi : TI} {g : TG} {ti : TT} {te : TE} {i : Nat} {y : Str}
  (hN : X.N.Nodup) (hi' : X.N[i]? = some y) (hy : Loc X.env.scope y) (hyl : X.env.scope.names.lookup y = some .local)
  (hc : X.calm = true) (ok : CompOk X N nl js scope cl) (hi : PI X target iter wi) (hk : Ys g (vG nl js))
  (hg : ∀ C s₀ H₀ ex,PG (z9 X N scope cl C s₀ H₀ ex) target g) (ht : ∀ C s₀ H₀ ex,TB (z9 X N scope cl C s₀ H₀ ex) ifs ti) (he : ∀ C s₀ H₀ ex,PE (z9 X N scope cl C s₀ H₀ ex) elt te)
  (hsw : swapsWith (.ListComp elt [⟨target,iter,ifs,0⟩] scope pos) (some (.Name y py)) spos.line X.env = pure true:=by rfl)
  (hs : ∀ x,foldedSetIterable iter X.env x = pure x:=by intro _; rfl) :
  PS X (.Assign [.Name y py] (.ListComp elt [⟨target,iter,ifs,0⟩] scope pos) spos) (zah (Wr wi (vG nl js) g ti te) (jK i)):=by
 intro pins s σ H D I h
 rw [exec_Assign_Name_used _ _ _ _ hsw]
 refine wpAny_bind (wpAny_standAt (wpAny_bind ?_))
 show wpAny _ X.A (do let _ <- comprehension (.ListComp elt [⟨target,iter,ifs,0⟩] scope pos) scope X.env _ (newList []) false (eval iter X.env) (some (assign (.Name y py) X.env))) _ _ s
 refine wpAny_bind (wpAny_mono (wpAny_comprehension_free (use:=some (assign (.Name y py) X.env)) (Q:=fun _ s'=>SP X pins D .next s') rfl hs ok.clos ok.kind ok.names
  (Yt (E:=X.xe) (pos:=pos) (fun acc C=>compPost (model X.prog X.w) X.A X.xe (some (assign (.Name y py) X.env)) (fun _ s'=>SP X pins D .next s') acc C) (fun acc C s' z=>?_) hc ok hi hk hg ht he I h)) (fun _ s' hq=>wpAny_pure (wpAny_pure hq)) fun _ _ e=>e)
 obtain ⟨D',H',m,rfl,J,fC,hn,q⟩:=z
 show wpAny _ X.A (assign (.Name y py) X.env (.ref D')) _ _ _
 refine wpAny_assign_Name (jI J hN hi' hy (v:=.ref D') rfl (fun s'' J' hsb=>?_) (.inr hyl))
 obtain ⟨a,sb,ha⟩:=hsb
 have hCa : C ≠ a:=by
  rcases ha with rfl | ha
  ·exact fC.2.1
  ·exact fun z=>fC.2.2.2.2.1 y a ha z.symm
 refine ⟨m,hn.sameBut sb hCa,fun h' sb'=>?_⟩
 exact ⟨_,H',J'.turned (t':=s''.toks) (fun b o hb e=>(sb'.2 b hb).trans e) fC.1 fC.2.1 fC.2.2.2.1 fC.2.2.2.2.1 fC.2.2.2.2.2,q⟩
end
section
variable {κ : Type} [DecidableEq κ]
def jZ (kvs : List (κ × V)) (k : κ) : Option V:=(kvs.find? fun kv=>decide (kv.1 = k)).map (·.2)
theorem Yu {p : κ × V} {r : List (κ × V)} {k : κ} (e : p.1 = k) : jZ (p::r) k = some p.2:=by simp [jZ,List.find?_cons,e]
theorem Yv {p : κ × V} {r : List (κ × V)} {k : κ} (e : ¬ p.1 = k) : jZ (p::r) k = jZ r k:=by simp [jZ,List.find?_cons,e]
theorem Xb.isSome_eq {o : Option V} {u : Option Value} (r : Xb o u) : o.isSome = u.isSome:=by
 cases o with
 | none=>cases u with
  | none=>rfl
  | some _=>exact (show False from r).elim
 | some _=>cases u with
  | none=>exact (show False from r).elim
  | some _=>rfl
theorem KV.val {kvs : List (κ × V)} {vs : List (κ × Value)} (r : KV kvs vs) (k : κ) : Xb (jZ kvs k) (valueAt vs k):=by
 unfold KV at r
 induction r with
 | nil=>exact True.intro
 | @cons p q ps qs h t ih=>
  obtain ⟨h1,h2⟩:=h
  by_cases e : p.1 = k
  ·have e' : q.1 = k:=h1.symm.trans e
   have b : valueAt (q::qs) k = some q.2:=by simp [valueAt,List.find?_cons,e']
   rw [Yu e,b]; exact h2
  ·have e' : ¬ q.1 = k:=fun z=>e (h1.trans z)
   have b : valueAt (q::qs) k = valueAt qs k:=by simp [valueAt,List.find?_cons,e']
   rw [Yv e,b]; exact ih
theorem KV.length {kvs : List (κ × V)} {vs : List (κ × Value)} (r : KV kvs vs) : kvs.length = vs.length:=Paired.length r
end
theorem Uu {P : Program} {w : World} {k : Key} {u : Value} (r : yp (kV k) u) : (yV P w).is k u = true:=by
 cases k with
 | inl i=>obtain ⟨t,e⟩:=(show ∃ t,u = Value.int i t from r); subst e; exact Zu P w i t
 | inr x=>obtain ⟨t,e⟩:=(show ∃ t,u = Value.str x t from r); subst e; exact Zv P w x t
theorem j0 {P : Program} {w : World} : ∀ {ks : List Key} {us : List Value},yn (ks.map kV) us->ItemsAre (yV P w) ks us
 | [],_,r=>by rw [List.map_nil] at r; cases r; exact .nil
 | k::ks,_,r=>by
  rw [List.map_cons] at r
  cases r with
  | cons h t=>exact .cons (Uu h) (j0 t)
abbrev KT (H : Hp) : List (List Key × V)->List (List Key × Addr × Value)->Prop:=Paired fun p q=>p.1 = q.1 /\ H q.2.1 = some (.tup (p.1.map kV)) /\ yp p.2 q.2.2
theorem KT.val {H : Hp} {kvs : List (List Key × V)} {xs : List (List Key × Addr × Value)} (r : KT H kvs xs) (k : List Key) : Xb (jZ kvs k) ((atKey xs k).map (·.2)):=by
 induction r with
 | nil=>exact True.intro
 | @cons p q ps qs h t ih=>
  obtain ⟨h1,_,h2⟩:=h
  by_cases e : p.1 = k
  ·have e' : q.1 = k:=h1.symm.trans e
   have b : atKey (q::qs) k = some q.2:=by simp [atKey,List.find?_cons,e']
   rw [Yu e,b]; exact h2
  ·have e' : ¬ q.1 = k:=fun z=>e (h1.trans z)
   have b : atKey (q::qs) k = atKey qs k:=by simp [atKey,List.find?_cons,e']
   rw [Yv e,b]; exact ih
section
variable {P : Program} {w : World} {H : Hp} {h : Heap} {a : Addr}
theorem zaE {u : HO} (ok : HOk P w H h) (e : Rd H a u) : yR P w H h a u:=e.ok ok
theorem ZB {kvs : List (Key × V)} (ok : HOk P w H h) (e : Rd H a (.dK kvs)) : kvs.length <= sizeLine /\ (a == sysModules) = false /\ ∃ vs,KV kvs vs /\ h.DictOf (yV P w) a vs:=
 show yR P w H h a (.dK kvs) from zaE ok e
theorem Yw {ks : List Key} (ok : HOk P w H h) (e : H a = some (.tup (ks.map kV))) : (tupleKind (yV P w)).is h ks a:=by
 obtain ⟨_,its,r,o,h1,h2,n,h3⟩:=(show yR P w H h a (.tup (ks.map kV)) from ok a _ e)
 exact ⟨o,its.toArray,n,h1,h2,h3,by simpa using j0 r⟩
theorem Uv {kvs : List (List Key × V)} (ok : HOk P w H h) (e : Rd H a (.dT kvs)) : kvs.length <= sizeLine /\ (a == sysModules) = false /\
  ∃ xs,KT H kvs xs /\ h.DictOfH (tupleKind (yV P w)) a xs:=by
 obtain ⟨z,y,xs,r,o,es,ep,h1,h2,h3,h4,h5⟩:=(show yR P w H h a (.dT kvs) from zaE ok e)
 refine ⟨z,y,xs,r,o,es,ep,h1,h2,h3,h4,fun x hx=>?_,h5⟩
 have all : ∀ {l : List (List Key × V)} {m : List (List Key × Addr × Value)},KT H l m->∀ x ∈ m,(tupleKind (yV P w)).is h x.1 x.2.1:=by
  intro l m q
  induction q with
  | nil=>intro x hx; exact nomatch hx
  | @cons p q ps qs hq t ih=>
   intro x hx
   rcases List.mem_cons.mp hx with e | hx
   ·subst e
    exact Yw ok (by rw [<- hq.1]; exact hq.2.1)
   ·exact ih x hx
 exact all r x hx
end
def JX (H : Hp) (a : Addr) (y : V) (r : Option V) : Prop:=
 (∃ kvs k,Rd H a (.dK kvs) /\ y = kV k /\ r = jZ kvs k) \/ ∃ kvs k b,Rd H a (.dT kvs) /\ y = .ref b /\ H b = some (.tup (k.map kV)) /\ r = jZ kvs k
section
variable {X : Cx} {pins : List (Addr × Obj)} {σ : St} {H : Hp} {s : Shared} {a : Addr} {y v : V} {u r : Value} {o : Option V} {A : Around} {E : Value->Shared->Prop}
theorem Wt {Q : Value->Shared->Prop} (hu : A.units + 1 < cLine) (I : Inv X pins σ H s) (g : JX H a y (some v)) (ry : yp y u) (h : ∀ w' s',Inv X pins σ H s'->yp v w'->Q w' s') :
  wpAny (model X.prog X.w) A (getItem (.ref a) u) Q E s:=by
 rcases g with ⟨kvs,k,e,ey,l⟩ | ⟨kvs,k,b,e,ey,eb,l⟩
 ·subst ey
  obtain ⟨z,hd,vs,rel,dd⟩:=ZB I.hok e
  obtain ⟨w',hw,rw'⟩:=Xb.some_of (v:=v) (o:=valueAt vs k) (by rw [l]; exact rel.val k)
  exact wpAny_getItem_of (Uu ry) dd.mapOf hw (h w' _ (I.tok _) rw')
 ·subst ey
  cases (show u = Value.ref b from ry)
  obtain ⟨z,hd,xs,rel,dd⟩:=Uv I.hok e
  obtain ⟨w',hw,rw'⟩:=Xb.some_of (v:=v) (o:=(atKey xs k).map (·.2)) (by rw [l]; exact rel.val k)
  obtain ⟨p,hp,hp2⟩:=omE hw
  refine wpAny_getItem_heap (tupleKind_room_in1 hu) (Yw I.hok eb) dd hp ?_
  rw [hp2]
  exact h w' _ (I.tok _) rw'
theorem zdB {Q : Value->Shared->Prop} (hu : A.units + 1 < cLine) (I : Inv X pins σ H s) (g : JX H a y o) (ry : yp y u) (h : ∀ s',Inv X pins σ H s'->Q (.bool o.isSome) s') :
  wpAny (model X.prog X.w) A (compareOp .In u (.ref a)) Q E s:=by
 rcases g with ⟨kvs,k,e,ey,l⟩ | ⟨kvs,k,b,e,ey,eb,l⟩
 ·subst ey
  obtain ⟨z,hd,vs,rel,dd⟩:=ZB I.hok e
  refine wpAny_in_of (Uu ry) hd dd.mapOf ?_
  rw [<- (rel.val k).isSome_eq,<- l]
  exact h _ (I.tok _)
 ·subst ey
  cases (show u = Value.ref b from ry)
  obtain ⟨z,hd,xs,rel,dd⟩:=Uv I.hok e
  refine wpAny_in_heap (tupleKind_room_in1 hu) (Yw I.hok eb) hd dd ?_
  have q:=(rel.val k).isSome_eq
  rw [Option.isSome_map] at q
  rw [<- q,<- l]
  exact h _ (I.tok _)
theorem QI {Q : Value->Shared->Prop} (hu : A.units + 1 < cLine) (I : Inv X pins σ H s) (g : JX H a y o) (ry : yp y u) (h : ∀ s',Inv X pins σ H s'->Q (.bool (!o.isSome)) s') :
  wpAny (model X.prog X.w) A (compareOp .NotIn u (.ref a)) Q E s:=by
 rcases g with ⟨kvs,k,e,ey,l⟩ | ⟨kvs,k,b,e,ey,eb,l⟩
 ·subst ey
  obtain ⟨z,hd,vs,rel,dd⟩:=ZB I.hok e
  refine wpAny_notIn_of (Uu ry) hd dd.mapOf ?_
  rw [<- (rel.val k).isSome_eq,<- l]
  exact h _ (I.tok _)
 ·subst ey
  cases (show u = Value.ref b from ry)
  obtain ⟨z,hd,xs,rel,dd⟩:=Uv I.hok e
  refine wpAny_notIn_heap (tupleKind_room_in1 hu) (Yw I.hok eb) hd dd ?_
  have q:=(rel.val k).isSome_eq
  rw [Option.isSome_map] at q
  rw [<- q,<- l]
  exact h _ (I.tok _)
end
section
variable {X : Cx} {pins : List (Addr × Obj)} {σ : St} {H : Hp} {s : Shared} {a : Addr} {kvs : List (Key × V)} {k : Key} {u : Value} {A : Around} {E : Value->Shared->Prop}
theorem zcw {Q : Value->Shared->Prop} (I : Inv X pins σ H s) (e : Rd H a (.dK kvs)) (h : ∀ t s',Inv X pins σ H s'->Q (.int kvs.length t) s') : wpAny (model X.prog X.w) A (call (.builtin "len") [.ref a]) Q E s:=by
 obtain ⟨z,hd,vs,rel,dd⟩:=ZB I.hok e
 refine call_len_dict hd dd (by rw [<- rel.length]; rw [sizeLine_eq] at z; omega) ?_
 rw [<- rel.length]
 exact h _ _ (I.tok _)
end
theorem ZC {X : Cx} {pins : List (Addr × Obj)} {σ : St} {H : Hp} {s : Shared} {a : Addr} {y : V} {o : Option V} (I : Inv X pins σ H s) (g : JX H a y o) : s.TypeIs (.ref a) "dict":=by
 rcases g with ⟨kvs,k,e,_,_⟩ | ⟨kvs,k,b,e,_,_,_⟩
 ·obtain ⟨_,_,vs,_,dd⟩:=ZB I.hok e
  exact dd.typeIs
 ·obtain ⟨_,_,xs,_,dd⟩:=Uv I.hok e
  exact dd.typeIs
section
variable {X : Cx} {o i e value : Expr} {pos pos' tpos : Pos} {td ty tv : TE}
end
section
variable {X : Cx} {pos : Pos}
end
section
variable {X : Cx} {pins : List (Addr × Obj)} {σ : St} {H : Hp} {s : Shared} {a : Addr} {y d : V} {u r : Value} {o : Option V} {A : Around} {E : Value->Shared->Prop}
end
section
variable {X : Cx} {o e f : Expr} {apos cpos : Pos} {td ty tx : TE}
end
section
variable {X : Cx} {pins : List (Addr × Obj)} {σ : St} {H : Hp} {s : Shared} {a : Addr} {kvs : List (Key × V)} {A : Around} {E : Value->Shared->Prop}
end
section
variable {X : Cx} {pins : List (Addr × Obj)} {σ : St} {H : Hp} {s : Shared} {a : Addr} {y : V} {u : Value} {A : Around} {E : Value->Shared->Prop}
end
section
variable {X : Cx}
end
section
variable {κ : Type} [DecidableEq κ]
end
structure ExcC (K : PySem.W.Frag) (C : Addr) : Prop where
 ga : PySem.W.findIn K (.ref C) "__getattribute__" = some (some (.builtin "BaseException.__getattribute__"))
 gx : PySem.W.findIn K (.ref C) "__getattr__" = some none
 fo : ∀ od,PySem.W.findObj K C od "__class__" = some (.bind (.builtin "getset_descriptor.__get__") (.builtin "object.__class__"))
 ob : PySem.W.mroIn K C (.type "object") = some true
 be : PySem.W.mroIn K C (.type "BaseException") = some true
 self : PySem.W.kitCls K (.ref C) (.ref C) = some true
def ExO (e C : Addr) (od : Option Addr) (h : Heap) : Prop:=∃ ox,h.get? e = some ox /\ ox.cls = .ref C /\ PySem.W.notCls ox = true /\ ox.dict = od
def zaF (X : Cx) (b : Addr) : Prop:=X.ex = [] /\ X.s₀.heap.get? b = none /\ b ≠ X.env.locals /\ (∀ x c,X.env.cells.lookup x = some c->c ≠ b) /\ ∀ p ∈ X.pn,p.1 ≠ b
section
variable {X : Cx} {pins : List (Addr × Obj)} {σ : St} {H : Hp} {s : Shared}
theorem zaF.of (I : Inv X pins σ H s) (hex : X.ex = []) {b : Addr} (hb : s.heap.get? b = none) : zaF X b:=by
 refine ⟨hex,?_,fun z=>?_,fun x c e z=>?_,fun p hp z=>?_⟩
 ·cases e : X.s₀.heap.get? b with
  | none=>rfl
  | some o=>
   obtain ⟨o',e'⟩:=I.base.there b o e (by rw [hex]; simp)
   rw [hb] at e'
   cases e'
 ·obtain ⟨m,⟨o,_,_,ho,_⟩,_⟩:=I.loc
  rw [<- z,hb] at ho
  cases ho
 ·obtain ⟨v,o,ho,_⟩:=I.cell x c e
  rw [z,hb] at ho
  cases ho
 ·have:=(I.pin p (List.mem_append_left _ hp)).1
  rw [z,hb] at this
  cases this
end
structure Fly (X : Cx) (H : Hp) (h : Heap) (e C : Addr) (od : Option Addr) : Prop where
 out : zaF X e
 free : H e = none
 obj : ∃ oe vs,h.get? e = some oe /\ oe.cls = .ref C /\ oe.dict = od /\ oe.data = .fields vs /\ (vs[1]? = some .none \/
  ∃ T oT ts,vs[1]? = some (.ref T) /\ T ≠ e /\ zaF X T /\ H T = none /\ h.get? T = some oT /\ oT.data = .fields ts /\ ts[3]? = some .none)
section
variable {X : Cx} {pins : List (Addr × Obj)} {σ : St} {H : Hp} {s : Shared}
end
inductive D where
 | non | bl (b : Bool) | int (i : Int) | str (x : Str) | tup (xs : List D) | lst (xs : List D) | dic (ks : List Key) (xs : List D) | obj (c : Str) (ks : List Str) (xs : List D)
mutual
def Rep (K : PySem.W.Frag) (H : Hp) : D->V->Prop
 | .non,v=>v = .non
 | .bl b,v=>v = .bl b
 | .int i,v=>v = .int i
 | .str x,v=>v = .str x
 | .tup ds,v=>∃ a vs,v = .ref a /\ SqT K H a vs /\ RepL K H ds vs
 | .lst ds,v=>∃ a vs,v = .ref a /\ SqL K H a vs /\ RepL K H ds vs
 | .dic ks ds,v=>∃ a vs,v = .ref a /\ Rd H a (.dK (ks.zip vs)) /\ ks.length = ds.length /\ ks.Nodup /\ RepL K H ds vs
 | .obj c ks ds,v=>∃ a C dx vs,v = .ref a /\ PySem.W.nsIn K mainGlobals c = some (some (.ref C)) /\ H a = some (.ins C dx (ks.zip vs)) /\ H dx = some (.own a) /\ ks.length = ds.length /\ RepL K H ds vs
def RepL (K : PySem.W.Frag) (H : Hp) : List D->List V->Prop
 | [],vs=>vs = []
 | d::ds,vs=>∃ v r,vs = v::r /\ Rep K H d v /\ RepL K H ds r
end
theorem zW.rd {H H' : Hp} (e : zW H H') {a : Addr} {u : HO} (h : Rd H a u) : Rd H' a u:=h.elim (fun z=>.inl (e _ _ z)) fun ⟨o,z⟩=>.inr ⟨o,e _ _ z⟩
theorem zW.sqT {K : PySem.W.Frag} {H H' : Hp} (e : zW H H') {a : Addr} {xs : List V} (h : SqT K H a xs) : SqT K H' a xs:=h.elim (fun z=>.inl (e.rd z)) .inr
theorem zW.sqL {K : PySem.W.Frag} {H H' : Hp} (e : zW H H') {a : Addr} {xs : List V} (h : SqL K H a xs) : SqL K H' a xs:=h.elim (fun z=>.inl (e.rd z)) .inr
mutual
theorem Rep.mono {K : PySem.W.Frag} {H H' : Hp} (e : zW H H') : ∀ {d : D} {v : V},Rep K H d v->Rep K H' d v
 | .non,_,h=>by simp only [Rep] at h ⊢; exact h
 | .bl b,_,h=>by simp only [Rep] at h ⊢; exact h
 | .int i,_,h=>by simp only [Rep] at h ⊢; exact h
 | .str x,_,h=>by simp only [Rep] at h ⊢; exact h
 | .tup ds,_,h=>by
  simp only [Rep] at h ⊢
  obtain ⟨a,vs,h1,h2,h3⟩:=h
  exact ⟨a,vs,h1,e.sqT h2,RepL.mono e h3⟩
 | .lst ds,_,h=>by
  simp only [Rep] at h ⊢
  obtain ⟨a,vs,h1,h2,h3⟩:=h
  exact ⟨a,vs,h1,e.sqL h2,RepL.mono e h3⟩
 | .dic ks ds,_,h=>by
  simp only [Rep] at h ⊢
  obtain ⟨a,vs,h1,h2,h3,h4,h5⟩:=h
  exact ⟨a,vs,h1,e.rd h2,h3,h4,RepL.mono e h5⟩
 | .obj c ks ds,_,h=>by
  simp only [Rep] at h ⊢
  obtain ⟨a,C,dx,vs,h1,h2,h3,h4,h5,h6⟩:=h
  exact ⟨a,C,dx,vs,h1,h2,e _ _ h3,e _ _ h4,h5,RepL.mono e h6⟩
theorem RepL.mono {K : PySem.W.Frag} {H H' : Hp} (e : zW H H') : ∀ {ds : List D} {vs : List V},RepL K H ds vs->RepL K H' ds vs
 | [],_,h=>by simp only [RepL] at h ⊢; exact h
 | d::ds,_,h=>by
  simp only [RepL] at h ⊢
  obtain ⟨v,r,h1,h2,h3⟩:=h
  exact ⟨v,r,h1,Rep.mono e h2,RepL.mono e h3⟩
end
theorem RepL.length {K : PySem.W.Frag} {H : Hp} : ∀ {ds : List D} {vs : List V},RepL K H ds vs->ds.length = vs.length
 | [],_,h=>by simp only [RepL] at h; subst h; rfl
 | d::ds,_,h=>by
  simp only [RepL] at h
  obtain ⟨v,r,h1,h2,h3⟩:=h
  subst h1
  simp [RepL.length h3]
theorem RepL.get {K : PySem.W.Frag} {H : Hp} : ∀ {ds : List D} {vs : List V} {i : Nat} {d : D},RepL K H ds vs->ds[i]? = some d->∃ v,vs[i]? = some v /\ Rep K H d v
 | [],_,_,_,_,e=>by simp at e
 | x::ds,_,0,d,h,e=>by
  simp only [RepL] at h
  obtain ⟨v,r,h1,h2,h3⟩:=h
  subst h1
  simp at e
  subst e
  exact ⟨v,rfl,h2⟩
 | x::ds,_,i + 1,d,h,e=>by
  simp only [RepL] at h
  obtain ⟨v,r,h1,h2,h3⟩:=h
  subst h1
  obtain ⟨u,h4,h5⟩:=RepL.get (i:=i) h3 (by simpa using e)
  exact ⟨u,by simpa using h4,h5⟩
theorem RepL.append {K : PySem.W.Frag} {H : Hp} : ∀ {ds es : List D} {vs us : List V},RepL K H ds vs->RepL K H es us->RepL K H (ds++es) (vs++us)
 | [],_,_,_,h,h'=>by simp only [RepL] at h; subst h; exact h'
 | d::ds,_,_,_,h,h'=>by
  simp only [RepL] at h
  obtain ⟨v,r,h1,h2,h3⟩:=h
  subst h1
  simp only [List.cons_append,RepL]
  exact ⟨v,_,rfl,h2,RepL.append h3 h'⟩
theorem RepL.drop {K : PySem.W.Frag} {H : Hp} : ∀ (n : Nat) {ds : List D} {vs : List V},RepL K H ds vs->RepL K H (ds.drop n) (vs.drop n)
 | 0,_,_,h=>h
 | _ + 1,[],_,h=>by simp only [RepL] at h; subst h; simp [RepL]
 | n + 1,d::ds,_,h=>by
  simp only [RepL] at h
  obtain ⟨v,r,h1,h2,h3⟩:=h
  subst h1
  exact RepL.drop n h3
theorem RepL.take {K : PySem.W.Frag} {H : Hp} : ∀ (n : Nat) {ds : List D} {vs : List V},RepL K H ds vs->RepL K H (ds.take n) (vs.take n)
 | 0,_,_,h=>by simp [RepL]
 | _ + 1,[],_,h=>by simp only [RepL] at h; subst h; simp [RepL]
 | n + 1,d::ds,_,h=>by
  simp only [RepL] at h
  obtain ⟨v,r,h1,h2,h3⟩:=h
  subst h1
  simp only [List.take_succ_cons,RepL]
  exact ⟨v,_,rfl,h2,RepL.take n h3⟩
theorem RepL.snoc {K : PySem.W.Frag} {H : Hp} {ds : List D} {vs : List V} {d : D} {v : V} (h : RepL K H ds vs) (r : Rep K H d v) : RepL K H (ds++[d]) (vs++[v]):=
 h.append (by simp only [RepL]; exact ⟨v,[],rfl,r,rfl⟩)
structure Grow (G H G' H' : Hp) : Prop where
 g : zW G G'
 h : zW H H'
 s : zW G' H'
 n : ∀ a o,H a = some o->G a = none->G' a = none
theorem Grow.refl {G H : Hp} (s : zW G H) : Grow G H G H:=⟨zW.refl _,zW.refl _,s,fun _ _ _ n=>n⟩
theorem Grow.trans {G H G1 H1 G2 H2 : Hp} (a : Grow G H G1 H1) (b : Grow G1 H1 G2 H2) : Grow G H G2 H2:=
 ⟨a.g.trans b.g,a.h.trans b.h,b.s,fun x o e n=>b.n x o (a.h x o e) (a.n x o e n)⟩
theorem zW.upd {G H : Hp} (s : zW G H) {p : Addr} (o : HO) : zW (upd G p o) (upd H p o):=fun b u e=>by
 by_cases hb : b = p
 ·subst hb; rw [yh] at e ⊢; exact e
 ·rw [zR hb] at e ⊢; exact s b u e
theorem yi {H : Hp} {p : Addr} (o : HO) (n : H p = none) : zW H (L2.upd H p o):=fun b u e=>by
 rw [zR (zY e n)]; exact e
theorem Grow.laid {G H : Hp} (s : zW G H) {p : Addr} (o : HO) (n : H p = none) : Grow G H (L2.upd G p o) (L2.upd H p o):=
 ⟨yi o (s.free n),yi o n,s.upd o,fun a u e z=>by rw [zR (zY e n)]; exact z⟩
inductive Mo where
 | lst (xs : List D) | dic (ks : List Key) (xs : List D)
@[simp] def Mo.d : Mo->D | .lst xs=>.lst xs | .dic ks xs=>.dic ks xs
@[simp] def Mo.vals : Mo->List D | .lst xs=>xs | .dic _ xs=>xs
def Mo.ho : Mo->List V->HO | .lst _,vs=>.lst vs | .dic ks _,vs=>.dK (ks.zip vs)
def Mo.ok : Mo->Prop | .lst _=>True | .dic ks xs=>ks.length = xs.length /\ ks.Nodup
structure Ex where
 n : Str
 ks : List Str
 ds : List D
def Pay (K : PySem.W.Frag) (G : Hp) (c : Ex) : Option Addr->Prop
 | none=>c.ks = [] /\ c.ds = []
 | some dx=>∃ vs,G dx = some (.xd (c.ks.zip vs)) /\ c.ks.length = c.ds.length /\ RepL K G c.ds vs
theorem Pay.mono {K : PySem.W.Frag} {H H' : Hp} (s : zW H H') {c : Ex} {od : Option Addr} (h : Pay K H c od) : Pay K H' c od:=by
 cases od with
 | none=>exact h
 | some dx=>obtain ⟨vs,h1,h2,h3⟩:=h; exact ⟨vs,s _ _ h1,h2,h3.mono s⟩
inductive Sl where
 | sh (d : D) | pv (m : Mo) (o : Option Addr) | ob (c : Ex) | tk (P : Program) (w : World) (ts : List (List Key))
@[simp] def Sl.d : Sl->D | .sh d=>d | .pv m _=>m.d | .ob _=>.non | .tk _ _ _=>.non
@[simp] def Sl.ok : Sl->Bool | .ob _=>false | .tk _ _ _=>false | _=>true
def tkX (ts : List (List Key)) (as : List Addr) : List (List Key × Addr × Value):=(ts.zip as).map fun p=>(p.1,p.2,.bool true)
def TkO (P : Program) (w : World) (a : Addr) (ts : List (List Key)) (as : List Addr) (h : Heap) : Prop:=∃ o es ep,h.get? a = some o /\ o.ExactDict /\ o.data = .dict es ep /\ es.toList = (tkX ts as).map (entryOfKey (tupleKind (yV P w)))
structure TkS (G : Hp) (a : Addr) (ts : List (List Key)) (as : List Addr) : Prop where
 sys : (a == sysModules) = false
 nd : ts.Nodup
 len : as.length = ts.length
 keys : ∀ p ∈ ts.zip as,G p.2 = some (.tup (p.1.map kV))
def Ue (B G H : Hp) (P : Program) (w : World) (ts : List (List Key)) (v : V) : Prop:=∃ a as,v = .ref a /\ B a = none /\ G a = none /\ H a = some (.ext (TkO P w a ts as)) /\ TkS G a ts as
theorem Ue.mono {B G H G' H' : Hp} {P : Program} {w : World} {ts : List (List Key)} {v : V} (h : Ue B G H P w ts v) (g : zW G G') (k : ∀ a φ,v = .ref a->H a = some (.ext φ)->B a = none->G a = none->H' a = some (.ext φ) /\ G' a = none) : Ue B G' H' P w ts v:=by
 obtain ⟨a,as,h1,h2,h3,h4,h5⟩:=h
 obtain ⟨k1,k2⟩:=k a _ h1 h4 h2 h3
 exact ⟨a,as,h1,h2,k2,k1,h5.sys,h5.nd,h5.len,fun p hp=>g _ _ (h5.keys p hp)⟩
def TC (K : PySem.W.Frag) (H : Hp) (c : Ex) (v : V) : Prop:=∃ a C od,v = .ref a /\ PySem.W.nsIn K mainGlobals c.n = some (some (.ref C)) /\ ExcC K C /\ H a = some (.ext (ExO a C od)) /\ Pay K H c od
theorem TC.mono {K : PySem.W.Frag} {H H' : Hp} (s : zW H H') {c : Ex} {v : V} (h : TC K H c v) : TC K H' c v:=by
 obtain ⟨a,C,od,h1,h2,h3,h4,h5⟩:=h
 exact ⟨a,C,od,h1,h2,h3,s _ _ h4,h5.mono s⟩
abbrev En:=List (Option Sl)
def zaG (K : PySem.W.Frag) (B G H : Hp) : Sl->V->Prop
 | .sh d,v=>Rep K G d v
 | .pv m o,v=>∃ a vs,v = .ref a /\ B a = none /\ G a = none /\ H a = some (m.ho vs) /\ m.ok /\ RepL K G m.vals vs /\ ∀ b,o = some b->b = a
 | .ob c,v=>TC K G c v
 | .tk P w ts,v=>Ue B G H P w ts v
theorem zaG.grow {K : PySem.W.Frag} {B G H G' H' : Hp} (g : Grow G H G' H') : ∀ {x : Sl} {v : V},zaG K B G H x v->zaG K B G' H' x v
 | .sh d,_,h=>Rep.mono g.g h
 | .pv m o,_,⟨a,vs,h1,h0,h2,h3,h5,h4,h6⟩=>⟨a,vs,h1,h0,g.n a _ h3 h2,g.h _ _ h3,h5,h4.mono g.g,h6⟩
 | .ob c,_,h=>TC.mono g.g h
 | .tk P w ts,_,h=>Ue.mono h g.g fun a φ _ e _ n=>⟨g.h _ _ e,g.n a _ e n⟩
structure RepS (K : PySem.W.Frag) (B G H : Hp) (δ : En) (σ : St) : Prop where
 len : δ.length = σ.length
 at_ : ∀ (i : Nat) (x : Sl),δ[i]? = some (some x)->∃ v,σ[i]? = some (some v) /\ zaG K B G H x v
 ap : ∀ (i j : Nat) (x y : Mo) (o o' : Option Addr),i ≠ j->δ[i]? = some (some (.pv x o))->δ[j]? = some (some (.pv y o'))->σ[i]? ≠ σ[j]?
theorem RepS.grow {K : PySem.W.Frag} {B G H G' H' : Hp} {δ : En} {σ : St} (r : RepS K B G H δ σ) (g : Grow G H G' H') : RepS K B G' H' δ σ:=
 ⟨r.len,fun i x e=>let ⟨v,h1,h2⟩:=r.at_ i x e; ⟨v,h1,h2.grow g⟩,r.ap⟩
theorem yM {α : Type} {l : List α} {i j : Nat} {x y : α} (e : (l.set i x)[j]? = some y) : (i = j /\ x = y) \/ (i ≠ j /\ l[j]? = some y):=by
 by_cases h : i = j
 ·subst h
  by_cases hl : i < l.length
  ·rw [List.getElem?_set_self hl] at e
   exact .inl ⟨rfl,Option.some.inj e⟩
  ·rw [List.getElem?_eq_none (by simpa using hl)] at e; cases e
 ·rw [List.getElem?_set_ne h] at e
  exact .inr ⟨h,e⟩
theorem RepS.put {K : PySem.W.Frag} {B G H : Hp} {δ : En} {σ : St} (r : RepS K B G H δ σ) (i : Nat) {x : Sl} {v : V} (h : zaG K B G H x v)
  (ha : ∀ m o,x = .pv m o->∀ (j : Nat) (y : Mo) (o' : Option Addr),j ≠ i->δ[j]? = some (some (.pv y o'))->σ[j]? ≠ some (some v)) : RepS K B G H (δ.set i (some x)) (σ.set i (some v)):=by
 refine ⟨by simp [r.len],fun j y e=>?_,fun j l y z o o' hjl e1 e2=>?_⟩
 ·have hl0:=(List.getElem?_eq_some_iff.mp e).1
  rw [List.length_set,r.len] at hl0
  rcases yM e with ⟨rfl,e'⟩ | ⟨hj,e'⟩
  ·cases e'
   exact ⟨v,List.getElem?_set_self hl0,h⟩
  ·rw [List.getElem?_set_ne hj]
   exact r.at_ j y e'
 ·have inb : ∀ (m : Nat) (w : Mo) (o : Option Addr),(δ.set i (some x))[m]? = some (some (.pv w o))->m < σ.length:=fun m w o e=>by
   have:=(List.getElem?_eq_some_iff.mp e).1
   rw [List.length_set,r.len] at this
   exact this
  rcases yM e1 with ⟨rfl,f1⟩ | ⟨h1,f1⟩
  ·rcases yM e2 with ⟨rfl,f2⟩ | ⟨h2,f2⟩
   ·exact absurd rfl hjl
   ·cases f1
    rw [List.getElem?_set_self (inb _ _ _ e1),List.getElem?_set_ne h2]
    exact fun z=>ha _ _ rfl l _ _ (Ne.symm h2) f2 z.symm
  ·rcases yM e2 with ⟨rfl,f2⟩ | ⟨h2,f2⟩
   ·cases f2
    rw [List.getElem?_set_self (inb _ _ _ e2),List.getElem?_set_ne h1]
    exact ha _ _ rfl j _ _ (Ne.symm h1) f1
   ·rw [List.getElem?_set_ne h1,List.getElem?_set_ne h2]
    exact r.ap j l y z o o' hjl f1 f2
theorem RepS.set {K : PySem.W.Frag} {B G H : Hp} {δ : En} {σ : St} (r : RepS K B G H δ σ) (i : Nat) {d : D} {v : V} (h : Rep K G d v) : RepS K B G H (δ.set i (some (.sh d))) (σ.set i (some v)):=
 r.put i (x:=.sh d) h fun m o e=>nomatch e
def wI (K : PySem.W.Frag) (G H : Hp) (d : D) (v : V) : Prop:=Rep K G d v \/ ∃ (m : Mo) (a : Addr) (vs : List V),d = m.d /\ v = .ref a /\ H a = some (m.ho vs) /\ m.ok /\ RepL K G m.vals vs
theorem wI.grow {K : PySem.W.Frag} {G H G' H' : Hp} {d : D} {v : V} (r : wI K G H d v) (g : Grow G H G' H') : wI K G' H' d v:=by
 rcases r with r | ⟨m,a,vs,h1,h2,h3,h4,h5⟩
 ·exact .inl (r.mono g.g)
 ·exact .inr ⟨m,a,vs,h1,h2,g.h _ _ h3,h4,h5.mono g.g⟩
theorem wI.lst {K : PySem.W.Frag} {G H : Hp} {ds : List D} {v : V} (r : wI K G H (.lst ds) v) (s : zW G H) : ∃ a vs,v = .ref a /\ SqL K H a vs /\ RepL K G ds vs:=by
 rcases r with r | ⟨m,a,vs,h1,h2,h3,h4,h5⟩
 ·simp only [Rep] at r
  obtain ⟨a,vs,h1,h2,h3⟩:=r
  exact ⟨a,vs,h1,s.sqL h2,h3⟩
 ·cases m with
  | lst xs=>cases h1; exact ⟨a,vs,h2,SqL.of h3,h5⟩
  | dic ks xs=>cases h1
theorem wI.tup {K : PySem.W.Frag} {G H : Hp} {ds : List D} {v : V} (r : wI K G H (.tup ds) v) : Rep K G (.tup ds) v:=by
 rcases r with r | ⟨m,a,vs,h1,_⟩
 ·exact r
 ·cases m <;> cases h1
theorem wI.dic {K : PySem.W.Frag} {G H : Hp} {ks : List Key} {ds : List D} {v : V} (r : wI K G H (.dic ks ds) v) (s : zW G H) : ∃ a vs,v = .ref a /\ Rd H a (.dK (ks.zip vs)) /\ ks.length = ds.length /\ ks.Nodup /\ RepL K G ds vs:=by
 rcases r with r | ⟨m,a,vs,h1,h2,h3,h4,h5⟩
 ·simp only [Rep] at r
  obtain ⟨a,vs,h1,h2,h3,h4,h5⟩:=r
  exact ⟨a,vs,h1,s.rd h2,h3,h4,h5⟩
 ·cases m with
  | lst xs=>cases h1
  | dic ks' xs=>cases h1; exact ⟨a,vs,h2,.inl h3,h4.1,h4.2,h5⟩
theorem wI.of {K : PySem.W.Frag} {G H : Hp} {d : D} {v : V} (r : Rep K G d v) : wI K G H d v:=.inl r
theorem wI.all {K : PySem.W.Frag} {G H : Hp} {d : D} {v : V} (r : wI K G H d v) (s : zW G H) : Rep K H d v:=by
 rcases r with r | ⟨m,a,vs,h1,h2,h3,h4,h5⟩
 ·exact r.mono s
 ·subst h1
  cases m with
  | lst xs=>simp only [Mo.d,Rep]; exact ⟨a,vs,h2,SqL.of h3,h5.mono s⟩
  | dic ks xs=>simp only [Mo.d,Rep]; exact ⟨a,vs,h2,.inl h3,h4.1,h4.2,h5.mono s⟩
def tX (K : PySem.W.Frag) (G H : Hp) : List D->List V->Prop
 | [],vs=>vs = []
 | d::ds,vs=>∃ v r,vs = v::r /\ wI K G H d v /\ tX K G H ds r
abbrev FE:=En->Option D
def Xj (K : PySem.W.Frag) (t : TE) (f : FE) : Prop:=∀ (B G H : Hp) (δ : En) (σ : St) (d : D) (Q : VK),zW G H->RepS K B G H δ σ->f δ = some d->
 (∀ v G' H',Grow G H G' H'->Rep K G' d v->Q v H')->t σ H Q
def qc (K : PySem.W.Frag) (t : TE) (f : FE) : Prop:=∀ (B G H : Hp) (δ : En) (σ : St) (d : D) (Q : VK),zW G H->RepS K B G H δ σ->f δ = some d->
 (∀ v G' H',Grow G H G' H'->wI K G' H' d v->Q v H')->t σ H Q
def PD (X : Cx) (e : Expr) (f : FE) : Prop:=∃ t,PE X e t /\ Xj X.K t f
def PB (X : Cx) (e : Expr) (f : FE) : Prop:=∃ t,PE X e t /\ qc X.K t f
theorem PD.pb {X : Cx} {e : Expr} {f : FE} (h : PD X e f) : PB X e f:=by
 obtain ⟨t,pt,k⟩:=h
 exact ⟨t,pt,fun B G H δ σ d Q sG rs ef q=>k B G H δ σ d Q sG rs ef fun v G' H' g r=>q v G' H' g (.inl r)⟩
inductive Rs where
 | sh (d : D) | fr (m : Mo)
@[simp] def Rs.d : Rs->D | .sh d=>d | .fr m=>m.d
@[simp] def Rs.sl : Rs->Sl | .sh d=>.sh d | .fr m=>.pv m none
abbrev FR:=En->Option Rs
def qS (K : PySem.W.Frag) (G H : Hp) (Q : VK) : Rs->Prop
 | .sh d=>∀ v G' H',Grow G H G' H'->Rep K G' d v->Q v H'
 | .fr m=>∀ p vs G' H',Grow G H G' H'->H' p = none->m.ok->RepL K G' m.vals vs->Q (.ref p) (upd H' p (m.ho vs))
def Yx (K : PySem.W.Frag) (t : TE) (f : FR) : Prop:=∀ (B G H : Hp) (δ : En) (σ : St) (r : Rs) (Q : VK),zW G H->RepS K B G H δ σ->f δ = some r->qS K G H Q r->t σ H Q
def PR (X : Cx) (e : Expr) (f : FR) : Prop:=∃ t,PE X e t /\ Yx X.K t f
@[simp] def fSh (f : FE) : FR:=fun δ=>(f δ).map .sh
@[simp] def zM (f : FR) : FE:=fun δ=>(f δ).map Rs.d
theorem PD.pr {X : Cx} {e : Expr} {f : FE} (h : PD X e f) : PR X e (fSh f):=by
 obtain ⟨t,pt,k⟩:=h
 refine ⟨t,pt,fun B G H δ σ r Q sG rs ef q=>?_⟩
 unfold fSh at ef
 obtain ⟨d,e1,rfl⟩:=omE ef
 exact k B G H δ σ d Q sG rs e1 q
theorem Wu {K : PySem.W.Frag} {G : Hp} {p : Addr} {m : Mo} {vs : List V} (hn : G p = none) (ok : m.ok) (r : RepL K G m.vals vs) : Rep K (upd G p (m.ho vs)) m.d (.ref p):=by
 cases m with
 | lst xs=>simp only [Mo.d,Rep]; exact ⟨p,vs,rfl,SqL.of yh,r.mono (yi _ hn)⟩
 | dic ks xs=>simp only [Mo.d,Rep]; exact ⟨p,vs,rfl,.inl yh,ok.1,ok.2,r.mono (yi _ hn)⟩
theorem qS.of {K : PySem.W.Frag} {G H : Hp} {Q : VK} {r : Rs} (q : ∀ v G' H',Grow G H G' H'->Rep K G' r.d v->Q v H') : qS K G H Q r:=by
 cases r with
 | sh d=>exact q
 | fr m=>exact fun p vs G' H' g hp ok rl=>q _ _ _ (g.trans (Grow.laid g.s _ hp)) (Wu (g.s.free hp) ok rl)
theorem PR.pd {X : Cx} {e : Expr} {f : FR} (h : PR X e f) : PD X e (zM f):=by
 obtain ⟨t,pt,k⟩:=h
 refine ⟨t,pt,fun B G H δ σ d Q sG rs ef q=>?_⟩
 unfold zM at ef
 obtain ⟨r,e1,rfl⟩:=omE ef
 exact k B G H δ σ r Q sG rs e1 (qS.of q)
def PDT (X : Cx) (e : Expr) (f : En->Option Bool) : Prop:=∃ t,PT X e t /\ ∀ (B G H : Hp) (δ : En) (σ : St) (b : Bool) (Q : Bool->Hp->Prop),zW G H->RepS X.K B G H δ σ->f δ = some b->
 (∀ G' H',Grow G H G' H'->Q b H')->t σ H Q
def PDW (X : Cx) (e : Expr) (f : En->Option Bool) : Prop:=∃ t,PW X e t /\ ∀ (B G H : Hp) (δ : En) (σ : St) (b : Bool) (Q : Bool->Hp->Prop),zW G H->RepS X.K B G H δ σ->f δ = some b->
 (∀ G' H',Grow G H G' H'->Q b H')->t σ H Q
def PAD (X : Cx) (es : List Expr) (f : En->Option (List D)) : Prop:=∃ t,PA X es t /\ ∀ (B G H : Hp) (δ : En) (σ : St) (ds : List D) (Q : List V->Hp->Prop),zW G H->RepS X.K B G H δ σ->f δ = some ds->
 (∀ vs G' H',Grow G H G' H'->RepL X.K G' ds vs->Q vs H')->t σ H Q
def PAB (X : Cx) (es : List Expr) (f : En->Option (List D)) : Prop:=∃ t,PA X es t /\ ∀ (B G H : Hp) (δ : En) (σ : St) (ds : List D) (Q : List V->Hp->Prop),zW G H->RepS X.K B G H δ σ->f δ = some ds->
 (∀ vs G' H',Grow G H G' H'->tX X.K G' H' ds vs->Q vs H')->t σ H Q
section
variable {X : Cx} {e a b c : Expr} {es : List Expr} {f g h : FE} {pos p : Pos}
@[simp] def zU (i : Nat) : FE:=fun δ=>match δ[i]? with | some (some (.sh d))=>some d | _=>none
theorem zo (i : Nat) {x : Str} (hN : X.N[i]? = some x:=by rfl) (hv : Vis X.env.scope x:=by first | exact Or.inl rfl | exact Or.inr (Or.inl rfl) | exact Or.inr (Or.inr rfl)) (hd : (x == ("__debug__" : Str)) = false:=by decide)
  (hcd : (x == ("__classdict__" : Str)) = false:=by decide) : PD X (.Name x pos) (zU i):=by
 refine ⟨zb0 i,wW hN hv hd hcd,fun B G H δ σ d Q sG rs ef k=>?_⟩
 unfold zU at ef
 split at ef
 ·rename_i d' ed
  cases ef
  obtain ⟨v,h1,h2⟩:=rs.at_ i _ ed
  exact ⟨v,h1,k v G H (Grow.refl sG) h2⟩
 ·cases ef
@[simp] def zj (i : Nat) : FE:=fun δ=>match δ[i]? with | some (some x)=>if x.ok = true then some x.d else none | _=>none
theorem ze (i : Nat) {x : Str} (hN : X.N[i]? = some x:=by rfl) (hv : Vis X.env.scope x:=by first | exact Or.inl rfl | exact Or.inr (Or.inl rfl) | exact Or.inr (Or.inr rfl)) (hd : (x == ("__debug__" : Str)) = false:=by decide)
  (hcd : (x == ("__classdict__" : Str)) = false:=by decide) : PB X (.Name x pos) (zj i):=by
 refine ⟨zb0 i,wW hN hv hd hcd,fun B G H δ σ d Q sG rs ef k=>?_⟩
 unfold zj at ef
 split at ef
 ·rename_i y ed
  split at ef
  case isFalse=>cases ef
  rename_i yok
  cases ef
  obtain ⟨v,h1,h2⟩:=rs.at_ i _ ed
  refine ⟨v,h1,k v G H (Grow.refl sG) ?_⟩
  cases y with
  | ob c=>cases yok
  | tk _ _ _=>cases yok
  | sh d=>exact .inl h2
  | pv m o=>
   obtain ⟨a,vs,e1,_,_,e2,e3,e4,_⟩:=h2
   exact .inr ⟨m,a,vs,rfl,e1,e2,e3,e4⟩
 ·cases ef
@[simp] def fC (d : D) : FE:=fun _=>some d
theorem zf {i j} : PD X (.Constant (.int i) j pos) (fC (.int i)):=⟨_,Tr,fun B G H δ σ d Q sG rs ef k=>by cases ef; exact k _ G H (Grow.refl sG) (by simp [Rep])⟩
theorem x4 {i j} : PD X (.Constant (.bool i) j pos) (fC (.bl i)):=⟨_,zca,fun B G H δ σ d Q sG rs ef k=>by cases ef; exact k _ G H (Grow.refl sG) (by simp [Rep])⟩
theorem zw {i j} : PD X (.Constant (.str i) j pos) (fC (.str i)):=⟨_,J9,fun B G H δ σ d Q sG rs ef k=>by cases ef; exact k _ G H (Grow.refl sG) (by simp [Rep])⟩
theorem QJ {x : Str} {v : V} {u : Value} {d : D} (hg : Gl X x) (hm : X.mg x = some u) (r : yp v u) (rep : ∀ G,Rep X.K G d v) (hd : (x == ("__debug__" : Str)) = false:=by decide) : PD X (.Name x pos) (fC d):=
 ⟨_,Qp hg hm r hd,fun B G H δ σ d Q sG rs ef k=>by cases ef; exact k _ G H (Grow.refl sG) (rep G)⟩
@[simp] def fNil : En->Option (List D):=fun _=>some []
@[simp] def zi (f : FE) (g : En->Option (List D)) : En->Option (List D):=fun δ=>(f δ).bind fun d=>(g δ).bind fun ds=>some (d::ds)
theorem zh : PAD X [] fNil:=⟨_,yJ,fun B G H δ σ d Q sG rs ef k=>by cases ef; exact k _ G H (Grow.refl sG) (by simp [RepL])⟩
theorem zb {g : En->Option (List D)} (ha : PD X e f) (hr : PAD X es g) (hs : starEach (e::es) X.env = (false,eval e X.env)::starEach es X.env:=by rfl) : PAD X (e::es) (zi f g):=by
 obtain ⟨ta,pa,ka⟩:=ha
 obtain ⟨tr,pr,kr⟩:=hr
 refine ⟨_,ya pa pr hs,fun B G H δ σ ds Q sG rs ef k=>?_⟩
 unfold zi at ef
 obtain ⟨d,e1,ef⟩:=obE ef
 obtain ⟨ds',e2,ef⟩:=obE ef
 cases ef
 refine ka B G H δ σ d _ sG rs e1 fun v G1 H1 g1 r1=>kr B G1 H1 δ σ ds' _ g1.s (rs.grow g1) e2 fun vs G2 H2 g2 r2=>?_
 exact k _ G2 H2 (g1.trans g2) (by simp only [RepL]; exact ⟨v,vs,rfl,r1.mono g2.g,r2⟩)
theorem zC : PAB X [] fNil:=⟨_,yJ,fun B G H δ σ d Q sG rs ef k=>by cases ef; exact k _ G H (Grow.refl sG) rfl⟩
theorem zq {g : En->Option (List D)} (ha : PB X e f) (hr : PAB X es g) (hs : starEach (e::es) X.env = (false,eval e X.env)::starEach es X.env:=by rfl) : PAB X (e::es) (zi f g):=by
 obtain ⟨ta,pa,ka⟩:=ha
 obtain ⟨tr,pr,kr⟩:=hr
 refine ⟨_,ya pa pr hs,fun B G H δ σ ds Q sG rs ef k=>?_⟩
 unfold zi at ef
 obtain ⟨d,e1,ef⟩:=obE ef
 obtain ⟨ds',e2,ef⟩:=obE ef
 cases ef
 refine ka B G H δ σ d _ sG rs e1 fun v G1 H1 g1 r1=>kr B G1 H1 δ σ ds' _ g1.s (rs.grow g1) e2 fun vs G2 H2 g2 r2=>?_
 exact k _ G2 H2 (g1.trans g2) ⟨v,vs,rfl,r1.grow g2,r2⟩
def spD (K : PySem.W.Frag) (M : List D->Option Rs) : Sp:=fun vs H Q _=>∃ G ds r,zW G H /\ RepL K G ds vs /\ M ds = some r /\ qS K G H Q r
def zx (P : Program) (w : World) (K : PySem.W.Frag) (mg : Str->Option Value) (base : Heap) (k : Nat) (x : Str) (ps : List Str) (M : List D->Option Rs) : Prop:=
 ∃ f fd,FnOk P w K mg base CX0 k f fd ps (spD K M) /\ Zx K fd ps [] /\ PySem.W.keepIn K (.ref f) = true /\ mg x = some (.ref f)
@[simp] def zr (M : List D->Option Rs) (g : En->Option (List D)) : FR:=fun δ=>(g δ).bind M
theorem qS.mono {K : PySem.W.Frag} {G H G1 H1 : Hp} {Q : VK} {r : Rs} (q : qS K G H Q r) (g : Grow G H G1 H1) : qS K G1 H1 Q r:=by
 cases r with
 | sh d=>exact fun v G' H' g'=>q v G' H' (g.trans g')
 | fr m=>exact fun p vs G' H' g'=>q p vs G' H' (g.trans g')
theorem zm {k : Nat} {x : Str} {ps : List Str} {M : List D->Option Rs} {g : En->Option (List D)} (F : zx X.prog X.w X.K X.mg X.base k x ps M) (hr : Room k X.A) (ha : PAD X (e::es) g) (hg : Gl X x:=by rfl)
  (hdb : (x == ("__debug__" : Str)) = false:=by decide) (he : starEach (e::es) X.env = (false,eval e X.env)::starEach es X.env:=by rfl) (hpl : (backTo pos (starEach es X.env)).any (·.1) = false:=by rfl) :
  PR X (.Call (.Name x p) (e::es) [] pos) (zr M g):=by
 obtain ⟨f,fd,F,hb,hk,hm⟩:=F
 obtain ⟨ta,pa,ka⟩:=ha
 refine ⟨_,Zy F hr hg hm hk hb .nil QG pa hdb he hpl,fun B G H δ σ r Q sG rs ef k=>?_⟩
 unfold zr at ef
 obtain ⟨ds,e1,ef⟩:=obE ef
 refine ka B G H δ σ ds _ sG rs e1 fun vs G1 H1 g1 r1=>?_
 rw [List.append_nil]
 exact ⟨G1,ds,r,g1.s,r1,ef,k.mono g1⟩
def yW : D->Bool | .non=>true | .bl _=>true | .int _=>true | .str _=>true | _=>false
def uZ (X : Cx) (f : Value) (c : List D->Option D) : Prop:=∃ r,xp X f r /\ ∀ (G H : Hp) (ds : List D) (vs : List V) (d : D) (Q : VK),zW G H->tX X.K G H ds vs->c ds = some d->
 (∀ v G' H',Grow G H G' H'->Rep X.K G' d v->Q v H')->r vs H Q
@[simp] def zH (M : List D->Option D) (g : En->Option (List D)) : FE:=fun δ=>(g δ).bind M
theorem zF {x : Str} {id : String} {cD : List D->Option D} {g : En->Option (List D)} (hc : uZ X (.builtin id) cD) (hm : X.mg x = none) (hv : bootBuiltins x = some (.builtin id)) (ha : PAB X (e::es) g) (hg : Gl X x:=by rfl)
  (hn : x ≠ "__name__":=by decide) (hdb : (x == ("__debug__" : Str)) = false:=by decide)
  (he : starEach (e::es) X.env = (false,eval e X.env)::starEach es X.env:=by rfl) (hpl : (backTo pos (starEach es X.env)).any (·.1) = false:=by rfl) : PD X (.Call (.Name x p) (e::es) [] pos) (zH cD g):=by
 obtain ⟨r,hc,kc⟩:=hc
 obtain ⟨ta,pa,ka⟩:=ha
 refine ⟨_,qP hc hg hm hv pa hn hdb he hpl,fun B G H δ σ d Q sG rs ef k=>?_⟩
 unfold zH at ef
 obtain ⟨ds,e1,ef⟩:=obE ef
 exact ka B G H δ σ ds _ sG rs e1 fun vs G1 H1 g1 r1=>kc G1 H1 ds vs d Q g1.s r1 ef fun v G' H' g2 r2=>k v G' H' (g1.trans g2) r2
theorem yq {x : Str} {T : String} {cD : List D->Option D} {g : En->Option (List D)} (hc : uZ X (.type T) cD) (hm : X.mg x = none) (hv : bootBuiltins x = some (.type T)) (ha : PAB X (e::es) g) (hg : Gl X x:=by rfl)
  (hn : x ≠ "__name__":=by decide) (hdb : (x == ("__debug__" : Str)) = false:=by decide)
  (he : starEach (e::es) X.env = (false,eval e X.env)::starEach es X.env:=by rfl) (hpl : (backTo pos (starEach es X.env)).any (·.1) = false:=by rfl) : PD X (.Call (.Name x p) (e::es) [] pos) (zH cD g):=by
 obtain ⟨r,hc,kc⟩:=hc
 obtain ⟨ta,pa,ka⟩:=ha
 refine ⟨_,uU hc hg hm hv pa hn hdb he hpl,fun B G H δ σ d Q sG rs ef k=>?_⟩
 unfold zH at ef
 obtain ⟨ds,e1,ef⟩:=obE ef
 exact ka B G H δ σ ds _ sG rs e1 fun vs G1 H1 g1 r1=>kc G1 H1 ds vs d Q g1.s r1 ef fun v G' H' g2 r2=>k v G' H' (g1.trans g2) r2
def OpD (X : Cx) (f : Value->Value->Sem Value) (o : D->D->Option D) : Prop:=∃ r,OpR X f r /\ ∀ (G H : Hp) (x y : D) (v u : V) (d : D) (Q : VK),zW G H->wI X.K G H x v->wI X.K G H y u->o x y = some d->
 (∀ v G' H',Grow G H G' H'->Rep X.K G' d v->Q v H')->r v u H Q
theorem OpD.or {F : Value->Value->Sem Value} {o o' : D->D->Option D} (h : OpD X F o) (h' : OpD X F o') : OpD X F (fun x y=>(o x y).or (o' x y)):=by
 obtain ⟨r,h1,h2⟩:=h
 obtain ⟨r',h1',h2'⟩:=h'
 refine ⟨_,h1.or h1',fun G H x y v u d Q sG rx ry e k=>?_⟩
 cases eo : o x y with
 | some z=>
  have : z = d:=by simpa [eo] using e
  subst this
  exact .inl (h2 G H x y v u z Q sG rx ry eo k)
 | none=>exact .inr (h2' G H x y v u d Q sG rx ry (by simpa [eo] using e) k)
@[simp] def f2 (o : D->D->Option D) (f g : FE) : FE:=fun δ=>(f δ).bind fun x=>(g δ).bind fun y=>o x y
theorem uJ {r : R2} {o : D->D->Option D} {ta tb : TE} (ka : qc X.K ta f) (kb : qc X.K tb g) (ko : ∀ (G H : Hp) (x y : D) (v u : V) (d : D) (Q : VK),zW G H->wI X.K G H x v->wI X.K G H y u->o x y = some d->
  (∀ v G' H',Grow G H G' H'->Rep X.K G' d v->Q v H')->r v u H Q) : Xj X.K (tOp r ta tb) (f2 o f g):=fun B G H δ σ d Q sG rs ef k=>by
 unfold f2 at ef
 obtain ⟨x,e1,ef⟩:=obE ef
 obtain ⟨y,e2,ef⟩:=obE ef
 exact ka B G H δ σ x _ sG rs e1 fun v G1 H1 g1 r1=>kb B G1 H1 δ σ y _ g1.s (rs.grow g1) e2 fun u G2 H2 g2 r2=>
  ko G2 H2 x y v u d Q g2.s (r1.grow g2) r2 ef fun v G' H' g3 r3=>k v G' H' ((g1.trans g2).trans g3) r3
theorem zu {op : Operator} {o : D->D->Option D} (ho : OpD X (binaryOp op) o) (ha : PB X a f) (hb : PB X b g) : PD X (.BinOp a op b pos) (f2 o f g):=by
 obtain ⟨r,ho,ko⟩:=ho
 obtain ⟨ta,pa,ka⟩:=ha
 obtain ⟨tb,pb,kb⟩:=hb
 exact ⟨_,zak ho pa pb,uJ ka kb ko⟩
theorem y8 {op : CmpOp} {o : D->D->Option D} (ho : OpD X (compareOp op) o) (ha : PB X a f) (hb : PB X b g) (hm : behindInMarks op b = false:=by first | exact Tu _ | with_unfolding_all rfl) : PD X (.Compare a [op] [b] pos) (f2 o f g):=by
 obtain ⟨r,ho,ko⟩:=ho
 obtain ⟨ta,pa,ka⟩:=ha
 obtain ⟨tb,pb,kb⟩:=hb
 exact ⟨_,Qv ho pa pb hm,uJ ka kb ko⟩
@[simp] def fB (f : FE) : En->Option Bool:=fun δ=>match f δ with | some (.bl b)=>some b | _=>none
theorem ZD {δ : En} {b : Bool} (e : fB f δ = some b) : f δ = some (.bl b):=by
 unfold fB at e
 split at e
 ·rename_i h; cases e; exact h
 ·cases e
theorem zK {op : CmpOp} {o : D->D->Option D} (ho : OpD X (compareOp op) o) (ha : PB X a f) (hb : PB X b g) (hm : behindInMarks op b = false:=by first | exact Tu _ | with_unfolding_all rfl) : PDT X (.Compare a [op] [b] pos) (fB (f2 o f g)):=by
 obtain ⟨r,ho,ko⟩:=ho
 obtain ⟨ta,pa,ka⟩:=ha
 obtain ⟨tb,pb,kb⟩:=hb
 refine ⟨_,Qw ho pa pb hm,fun B G H δ σ q Q sG rs ef k=>?_⟩
 refine uJ ka kb ko B G H δ σ _ _ sG rs (ZD ef) fun v G' H' g1 r1=>?_
 simp only [Rep] at r1
 exact ⟨q,r1,k G' H' g1⟩
theorem zI (h : PD X e f) (he : ∀ whole,isTrue e X.env whole = (do let v <- whole; standAt e.pos; holding [v] (truthy v)):=by intro _; rfl) : PDT X e (fB f):=by
 obtain ⟨t,pe,ke⟩:=h
 refine ⟨_,zaa pe he,fun B G H δ σ q Q sG rs ef k=>?_⟩
 refine ke B G H δ σ _ _ sG rs (ZD ef) fun v G' H' g1 r1=>?_
 simp only [Rep] at r1
 exact ⟨q,r1,k G' H' g1⟩
@[simp] def f3 (o o' : D->D->Option D) (f g h : FE) : FE:=fun δ=>(f δ).bind fun x=>(g δ).bind fun y=>(o x y).bind fun z=>match z with | .bl true=>(h δ).bind fun w=>o' y w | .bl false=>some (.bl false) | _=>none
theorem u0 {r r' : R2} {o o' : D->D->Option D} {ta tb tc : TE} (ka : qc X.K ta f) (kb : qc X.K tb g) (kc : qc X.K tc h) (ko : ∀ (G H : Hp) (x y : D) (v u : V) (d : D) (Q : VK),zW G H->wI X.K G H x v->wI X.K G H y u->o x y = some d->
  (∀ v G' H',Grow G H G' H'->Rep X.K G' d v->Q v H')->r v u H Q) (ko' : ∀ (G H : Hp) (x y : D) (v u : V) (d : D) (Q : VK),zW G H->wI X.K G H x v->wI X.K G H y u->o' x y = some d->
  (∀ v G' H',Grow G H G' H'->Rep X.K G' d v->Q v H')->r' v u H Q) : Xj X.K (X9 r r' ta tb tc) (f3 o o' f g h):=fun B G H δ σ d Q sG rs ef k=>by
 unfold f3 at ef
 obtain ⟨x,e1,ef⟩:=obE ef
 obtain ⟨y,e2,ef⟩:=obE ef
 obtain ⟨z,e3,ef⟩:=obE ef
 refine ka B G H δ σ x _ sG rs e1 fun v G1 H1 g1 r1=>kb B G1 H1 δ σ y _ g1.s (rs.grow g1) e2 fun u G2 H2 g2 r2=>ko G2 H2 x y v u z _ g2.s (r1.grow g2) r2 e3 fun zz G3 H3 g3 r3=>?_
 have g13:=(g1.trans g2).trans g3
 split at ef
 ·simp only [Rep] at r3
  obtain ⟨w,e4,ef⟩:=obE ef
  refine ⟨true,r3,?_⟩
  rw [if_pos rfl]
  exact kc B G3 H3 δ σ w _ g3.s (rs.grow g13) e4 fun q G4 H4 g4 r4=>ko' G4 H4 y w u q d Q g4.s (r2.grow (g3.trans g4)) r4 ef fun v G' H' g5 r5=>k v G' H' ((g13.trans g4).trans g5) r5
 ·simp only [Rep] at r3
  cases ef
  refine ⟨false,r3,?_⟩
  rw [if_neg Bool.false_ne_true]
  exact k _ G3 H3 g13 (by simp [Rep])
 ·cases ef
theorem uK {op op' : CmpOp} {o o' : D->D->Option D} (ho : OpD X (compareOp op) o) (ho' : OpD X (compareOp op') o') (ha : PB X a f) (hb : PB X b g) (hc : PB X c h) (hm : lastMarks [op,op'] [b,c] = false:=by with_unfolding_all rfl) :
  PD X (.Compare a [op,op'] [b,c] pos) (f3 o o' f g h):=by
 obtain ⟨r,ho,ko⟩:=ho
 obtain ⟨r',ho',ko'⟩:=ho'
 obtain ⟨ta,pa,ka⟩:=ha
 obtain ⟨tb,pb,kb⟩:=hb
 obtain ⟨tc,pc,kc⟩:=hc
 exact ⟨_,Ul ho ho' pa pb pc hm,u0 ka kb kc ko ko'⟩
theorem j3 {op op' : CmpOp} {o o' : D->D->Option D} (ho : OpD X (compareOp op) o) (ho' : OpD X (compareOp op') o') (ha : PB X a f) (hb : PB X b g) (hc : PB X c h) (hm : lastMarks [op,op'] [b,c] = false:=by with_unfolding_all rfl) :
  PDT X (.Compare a [op,op'] [b,c] pos) (fB (f3 o o' f g h)):=by
 obtain ⟨r,ho,ko⟩:=ho
 obtain ⟨r',ho',ko'⟩:=ho'
 obtain ⟨ta,pa,ka⟩:=ha
 obtain ⟨tb,pb,kb⟩:=hb
 obtain ⟨tc,pc,kc⟩:=hc
 refine ⟨_,Um ho ho' pa pb pc hm,fun B G H δ σ q Q sG rs ef k=>?_⟩
 refine u0 ka kb kc ko ko' B G H δ σ _ _ sG rs (ZD ef) fun v G' H' g1 r1=>?_
 simp only [Rep] at r1
 exact ⟨q,r1,k G' H' g1⟩
@[simp] def JY (f g : En->Option Bool) : En->Option Bool:=fun δ=>(f δ).bind fun x=>if x = true then g δ else some false
@[simp] def bOr (f g : En->Option Bool) : En->Option Bool:=fun δ=>(f δ).bind fun x=>if x = true then some true else g δ
@[simp] def xO (f : En->Option Bool) : En->Option Bool:=fun δ=>(f δ).map (!·)
variable {fb gb : En->Option Bool} {rest : List Expr}
theorem PDW.pdt (h : PDW X e fb) : PDT X e fb:=by
 obtain ⟨t,pw,k⟩:=h
 exact ⟨t,pw.pt,k⟩
theorem Uw (ha : PDT X a fb) : PDW X (.BoolOp .And [a] pos) fb:=by
 obtain ⟨t,pt,k⟩:=ha
 exact ⟨t,Qr pt,k⟩
theorem yw (ha : PDT X a fb) : PDW X (.BoolOp .Or [a] pos) fb:=by
 obtain ⟨t,pt,k⟩:=ha
 exact ⟨t,zab pt,k⟩
theorem QK (ha : PDT X a fb) (hb : PDW X (.BoolOp .And (b::rest) pos) gb) : PDW X (.BoolOp .And (a::b::rest) pos) (JY fb gb):=by
 obtain ⟨t,pt,k1⟩:=ha
 obtain ⟨u,pu,k2⟩:=hb
 refine ⟨_,zac pt pu,fun B G H δ σ q Q sG rs ef k=>?_⟩
 unfold JY at ef
 obtain ⟨x,e1,ef⟩:=obE ef
 refine k1 B G H δ σ x _ sG rs e1 fun G1 H1 g1=>?_
 cases x with
 | true=>rw [if_pos rfl] at ef ⊢; exact k2 B G1 H1 δ σ q Q g1.s (rs.grow g1) ef fun G' H' g2=>k G' H' (g1.trans g2)
 | false=>rw [if_neg Bool.false_ne_true] at ef ⊢; cases ef; exact k G1 H1 g1
theorem yt (ha : PDT X a fb) (hb : PDW X (.BoolOp .Or (b::rest) pos) gb) : PDW X (.BoolOp .Or (a::b::rest) pos) (bOr fb gb):=by
 obtain ⟨t,pt,k1⟩:=ha
 obtain ⟨u,pu,k2⟩:=hb
 refine ⟨_,zcb pt pu,fun B G H δ σ q Q sG rs ef k=>?_⟩
 unfold bOr at ef
 obtain ⟨x,e1,ef⟩:=obE ef
 refine k1 B G H δ σ x _ sG rs e1 fun G1 H1 g1=>?_
 cases x with
 | false=>rw [if_neg Bool.false_ne_true] at ef ⊢; exact k2 B G1 H1 δ σ q Q g1.s (rs.grow g1) ef fun G' H' g2=>k G' H' (g1.trans g2)
 | true=>rw [if_pos rfl] at ef ⊢; cases ef; exact k G1 H1 g1
theorem zQ (ha : PDT X a fb) : PDT X (.UnaryOp .Not a pos) (xO fb):=by
 obtain ⟨t,pt,k1⟩:=ha
 refine ⟨_,L2.pt_not pt,fun B G H δ σ q Q sG rs ef k=>?_⟩
 unfold xO at ef
 obtain ⟨x,e1,ef⟩:=omE ef
 subst ef
 exact k1 B G H δ σ x _ sG rs e1 fun G1 H1 g1=>k G1 H1 g1
@[simp] def Yy (f g : FE) : FE:=fun δ=>match f δ with | some (.bl true)=>g δ | some (.bl false)=>some (.bl false) | _=>none
@[simp] def fOr (f g : FE) : FE:=fun δ=>match f δ with | some (.bl true)=>some (.bl true) | some (.bl false)=>g δ | _=>none
@[simp] def JZ (f : FE) : FE:=fun δ=>match f δ with | some (.bl b)=>some (.bl (!b)) | _=>none
theorem wa {op} (h : PD X a f) : PD X (.BoolOp op [a] pos) f:=by
 obtain ⟨t,pt,k⟩:=h
 exact ⟨t,zad pt,k⟩
theorem wZ (ha : PD X a f) (hb : PD X (.BoolOp .And (b::rest) pos) g) : PD X (.BoolOp .And (a::b::rest) pos) (Yy f g):=by
 obtain ⟨t,pt,k1⟩:=ha
 obtain ⟨u,pu,k2⟩:=hb
 refine ⟨_,zae pt pu,fun B G H δ σ q Q sG rs ef k=>?_⟩
 unfold Yy at ef
 split at ef
 ·rename_i e1
  refine k1 B G H δ σ _ _ sG rs e1 fun v G1 H1 g1 r1=>⟨true,by simpa only [Rep] using r1,?_⟩
  rw [if_pos rfl]
  exact k2 B G1 H1 δ σ q Q g1.s (rs.grow g1) ef fun v G' H' g2 r2=>k v G' H' (g1.trans g2) r2
 ·rename_i e1
  cases ef
  refine k1 B G H δ σ _ _ sG rs e1 fun v G1 H1 g1 r1=>⟨false,by simpa only [Rep] using r1,?_⟩
  rw [if_neg Bool.false_ne_true]
  exact k _ G1 H1 g1 (by simp [Rep])
 ·cases ef
theorem Wv (ha : PD X a f) (hb : PD X (.BoolOp .Or (b::rest) pos) g) : PD X (.BoolOp .Or (a::b::rest) pos) (fOr f g):=by
 obtain ⟨t,pt,k1⟩:=ha
 obtain ⟨u,pu,k2⟩:=hb
 refine ⟨_,zce pt pu,fun B G H δ σ q Q sG rs ef k=>?_⟩
 unfold fOr at ef
 split at ef
 ·rename_i e1
  cases ef
  refine k1 B G H δ σ _ _ sG rs e1 fun v G1 H1 g1 r1=>⟨true,by simpa only [Rep] using r1,?_⟩
  rw [if_pos rfl]
  exact k _ G1 H1 g1 (by simp [Rep])
 ·rename_i e1
  refine k1 B G H δ σ _ _ sG rs e1 fun v G1 H1 g1 r1=>⟨false,by simpa only [Rep] using r1,?_⟩
  rw [if_neg Bool.false_ne_true]
  exact k2 B G1 H1 δ σ q Q g1.s (rs.grow g1) ef fun v G' H' g2 r2=>k v G' H' (g1.trans g2) r2
 ·cases ef
theorem TD (ha : PD X a f) : PD X (.UnaryOp .Not a pos) (JZ f):=by
 obtain ⟨t,pt,k1⟩:=ha
 refine ⟨_,zaf pt,fun B G H δ σ q Q sG rs ef k=>?_⟩
 unfold JZ at ef
 split at ef
 ·rename_i b e1
  cases ef
  refine k1 B G H δ σ _ _ sG rs e1 fun v G1 H1 g1 r1=>⟨b,by simpa only [Rep] using r1,k _ G1 H1 g1 (by simp [Rep])⟩
 ·cases ef
@[simp] def fIf (c : En->Option Bool) (f g : FE) : FE:=fun δ=>(c δ).bind fun x=>if x = true then f δ else g δ
theorem Xk {c : Expr} (hc : PDT X c fb) (ha : PD X a f) (hb : PD X b g) : PD X (.IfExp c a b pos) (fIf fb f g):=by
 obtain ⟨tc,pc,kc⟩:=hc
 obtain ⟨ta,pa,ka⟩:=ha
 obtain ⟨tb,pb,kb⟩:=hb
 refine ⟨_,Ui pc pa pb,fun B G H δ σ q Q sG rs ef k=>?_⟩
 unfold fIf at ef
 obtain ⟨x,e1,ef⟩:=obE ef
 refine kc B G H δ σ x _ sG rs e1 fun G1 H1 g1=>?_
 cases x with
 | true=>rw [if_pos rfl] at ef ⊢; exact ka B G1 H1 δ σ q Q g1.s (rs.grow g1) ef fun v G' H' g2=>k v G' H' (g1.trans g2)
 | false=>rw [if_neg Bool.false_ne_true] at ef ⊢; exact kb B G1 H1 δ σ q Q g1.s (rs.grow g1) ef fun v G' H' g2=>k v G' H' (g1.trans g2)
@[simp] def xZ (g : En->Option (List D)) : FE:=fun δ=>(g δ).bind fun ds=>if ds.length <= sizeLine then some (.tup ds) else none
theorem vJ {K : PySem.W.Frag} {G : Hp} {p : Addr} {ds : List D} {vs : List V} (hn : G p = none) (r : RepL K G ds vs) : Rep K (upd G p (.tup vs)) (.tup ds) (.ref p):=by
 simp only [Rep]
 exact ⟨p,vs,rfl,SqT.of yh,r.mono (yi _ hn)⟩
theorem Ww {K : PySem.W.Frag} {G : Hp} {p : Addr} {ds : List D} {vs : List V} (hn : G p = none) (r : RepL K G ds vs) : Rep K (upd G p (.lst vs)) (.lst ds) (.ref p):=by
 simp only [Rep]
 exact ⟨p,vs,rfl,SqL.of yh,r.mono (yi _ hn)⟩
theorem z7 {x1} {g : En->Option (List D)} (ha : PAD X es g) : PD X (.Tuple es x1 pos) (xZ g):=by
 obtain ⟨t,pt,k1⟩:=ha
 refine ⟨_,Tv pt,fun B G H δ σ q Q sG rs ef k=>?_⟩
 unfold xZ at ef
 obtain ⟨ds,e1,ef⟩:=obE ef
 split at ef
 ·rename_i hl
  cases ef
  exact k1 B G H δ σ ds _ sG rs e1 fun vs G1 H1 g1 r1=>⟨by rw [<- r1.length]; exact hl,fun p hp=>k _ _ _ (g1.trans (Grow.laid g1.s _ hp)) (vJ (g1.s.free hp) r1)⟩
 ·cases ef
@[simp] def wD (g : En->Option (List D)) : FR:=fun δ=>(g δ).bind fun ds=>if ds.length <= sizeLine then some (.fr (.lst ds)) else none
theorem xP {g : En->Option (List D)} (ha : PAD X es g) : PR X (.List es pos) (wD g):=by
 obtain ⟨t,pt,k1⟩:=ha
 refine ⟨_,zau pt,fun B G H δ σ q Q sG rs ef k=>?_⟩
 unfold wD at ef
 obtain ⟨ds,e1,ef⟩:=obE ef
 split at ef
 ·rename_i hl
  cases ef
  exact k1 B G H δ σ ds _ sG rs e1 fun vs G1 H1 g1 r1=>⟨by rw [<- r1.length]; exact hl,fun p hp=>k p vs G1 H1 g1 hp True.intro r1⟩
 ·cases ef
def ixD : D->D->Option D
 | .lst ds,.int i=>atI ds i
 | .tup ds,.int i=>atI ds i
 | .str z,.int i=>if z.length <= sizeLine then (atI z.cps.toList i).map fun c=>.str ⟨#[c]⟩ else none
 | _,_=>none
theorem RepL.atI {K : PySem.W.Frag} {H : Hp} {ds : List D} {vs : List V} {i : Int} {d : D} (r : RepL K H ds vs) (e : L2.atI ds i = some d) : ∃ v,L2.atI vs i = some v /\ Rep K H d v:=by
 unfold L2.atI at e ⊢
 rw [<- r.length]
 obtain ⟨j,e1,e2⟩:=obE e
 obtain ⟨v,h1,h2⟩:=r.get e2
 exact ⟨v,by rw [e1]; exact h1,h2⟩
def zb2 : D->Option Key | .int i=>some (.inl i) | .str x=>some (.inr x) | _=>none
def qT (ks : List Key) (ds : List D) (k : Key) : Option D:=((ks.zip ds).find? fun kv=>decide (kv.1 = k)).map (·.2)
theorem w9 {K : PySem.W.Frag} {G : Hp} (k : Key) : ∀ {ks : List Key} {ds : List D} {vs : List V},ks.length = ds.length->RepL K G ds vs->(∀ d,qT ks ds k = some d->∃ v,jZ (ks.zip vs) k = some v /\ Rep K G d v) /\ (qT ks ds k = none->jZ (ks.zip vs) k = none)
 | [],_,_,_,_=>⟨fun d e=>(by cases e),fun _=>rfl⟩
 | k0::ks,[],_,hl,_=>by cases hl
 | k0::ks,d0::ds,_,hl,r=>by
  simp only [RepL] at r
  obtain ⟨v,us,rfl,r1,r2⟩:=r
  have ih:=w9 k (ks:=ks) (ds:=ds) (by simpa using hl) r2
  by_cases h : k0 = k
  ·subst h
   refine ⟨fun d e=>?_,fun e=>?_⟩
   ·have : d0 = d:=by simpa [qT] using e
    subst this
    exact ⟨v,by simp [jZ],r1⟩
   ·simp [qT] at e
  ·have e1 : qT (k0::ks) (d0::ds) k = qT ks ds k:=by simp [qT,h]
   have e2 : jZ ((k0::ks).zip (v::us)) k = jZ (ks.zip us) k:=by simp [jZ,h]
   rw [e1,e2]
   exact ih
theorem Yz {K : PySem.W.Frag} {G H : Hp} {d : D} {k : Key} {v : V} (e : zb2 d = some k) (r : wI K G H d v) : v = kV k:=by
 rcases r with r | ⟨m,a,vs,h1,_⟩
 ·cases d <;> simp only [zb2,Rep] at e r <;> first | cases e | skip
  all_goals (subst r; rfl)
 ·subst h1
  cases m <;> cases e
theorem wI.flat {K : PySem.W.Frag} {G H : Hp} {d : D} {v : V} (e : yW d = true) (r : wI K G H d v) : Rep K G d v:=by
 rcases r with r | ⟨m,a,vs,h1,_⟩
 ·exact r
 ·subst h1; cases m <;> cases e
def rIxD : R2:=fun x y H Q=>∃ a v,x = .ref a /\ JX H a y (some v) /\ Q v H
theorem QL (hu : X.A.units + 1 < cLine) : IxR X rIxD:=by
 intro value slice pins s σ H x y v u Q I rx ry h hs
 obtain ⟨a,w',rfl,g,q⟩:=h
 cases rx
 exact tail_any (ZC I g) PySem.slot_dict_getitem.lookup (Wt hu I g ry fun w2 s' I' r'=>⟨_,H,I',r',q⟩) hs
def ixA : D->D->Option D
 | .dic ks ds,y=>(zb2 y).bind fun k=>qT ks ds k
 | x,y=>ixD x y
theorem zD (hu : X.A.units + 1 < cLine) (ha : PB X a f) (hb : PB X b g) (hs : Wj b:=by intro _ _; rfl) : PD X (.Subscript a b pos) (f2 ixA f g):=by
 obtain ⟨ta,pa,ka⟩:=ha
 obtain ⟨tb,pb,kb⟩:=hb
 refine ⟨_,zcv (zaA.or (QL hu)) pa pb hs,uJ ka kb fun G H x y v u d Q sG rx ry e k=>?_⟩
 unfold ixA at e
 split at e
 ·obtain ⟨kk,e1,e2⟩:=obE e
  obtain ⟨a,vs,rfl,hd,hl,nd,rl⟩:=rx.dic sG
  obtain ⟨w',e3,r3⟩:=(w9 kk hl rl).1 d e2
  have:=Yz e1 ry
  subst this
  exact .inr ⟨a,w',rfl,.inl ⟨_,kk,hd,rfl,e3.symm⟩,k w' G H (Grow.refl sG) r3⟩
 ·rename_i x' y' hx
  unfold ixD at e
  split at e
  ·obtain ⟨p,vs,rfl,hq,rl⟩:=rx.lst sG
   have ry:=ry.flat rfl
   simp only [Rep] at ry
   obtain ⟨w,e1,r1⟩:=rl.atI e
   exact .inl (.inl ⟨p,vs,_,w,rfl,ry,hq,e1,k w G H (Grow.refl sG) r1⟩)
  ·have rx:=rx.tup
   have ry:=ry.flat rfl
   simp only [Rep] at rx ry
   obtain ⟨p,vs,rfl,hq,rl⟩:=rx
   obtain ⟨w,e1,r1⟩:=rl.atI e
   exact .inl (.inr (.inl ⟨p,vs,_,w,rfl,ry,sG.sqT hq,e1,k w G H (Grow.refl sG) r1⟩))
  ·have rx:=rx.flat rfl
   have ry:=ry.flat rfl
   simp only [Rep] at rx ry
   split at e
   ·rename_i hl
    obtain ⟨c,e1,rfl⟩:=omE e
    exact .inl (.inr (.inr ⟨_,_,c,rx,ry,hl,e1,k _ G H (Grow.refl sG) (by simp [Rep])⟩))
   ·cases e
  ·cases e
end
section
variable {X : Cx}
theorem YA {f : Value->Value->Sem Value} {g : Int->Int->V} {g' : Int->Int->D} (h : OpR X f (rI0 g)) (hg : ∀ G i j,Rep X.K G (g' i j) (g i j)) :
  OpD X f (fun x y=>match x,y with | .int i,.int j=>some (g' i j) | _,_=>none):=by
 refine ⟨_,h,fun G H x y v u d Q sG rx ry e k=>?_⟩
 dsimp only at e
 split at e
 ·cases e
  have rx:=rx.flat rfl
  have ry:=ry.flat rfl
  simp only [Rep] at rx ry
  exact ⟨_,_,rx,ry,k _ G H (Grow.refl sG) (hg _ _ _)⟩
 ·cases e
theorem Ux {f : Value->Value->Sem Value} {C : Int->Int->Prop} [∀ i j,Decidable (C i j)] {g : Int->Int->V} {g' : Int->Int->D} (h : OpR X f (rI C g)) (hg : ∀ G i j,Rep X.K G (g' i j) (g i j)) :
  OpD X f (fun x y=>match x,y with | .int i,.int j=>if C i j then some (g' i j) else none | _,_=>none):=by
 refine ⟨_,h,fun G H x y v u d Q sG rx ry e k=>?_⟩
 dsimp only at e
 split at e
 ·split at e
  ·rename_i hc
   cases e
   have rx:=rx.flat rfl
   have ry:=ry.flat rfl
   simp only [Rep] at rx ry
   exact ⟨_,_,rx,ry,hc,k _ G H (Grow.refl sG) (hg _ _ _)⟩
  ·cases e
 ·cases e
instance (i j : Int) : Decidable (zal i j):=inferInstanceAs (Decidable (_ /\ _))
instance (i j : Int) : Decidable (Ts i j):=inferInstanceAs (Decidable (_ \/ _))
instance (i j : Int) : Decidable (zam i j):=inferInstanceAs (Decidable (_ /\ _ /\ _))
def iAdd : D->D->Option D | .int i,.int j=>some (.int (i + j)) | _,_=>none
def subD : D->D->Option D | .int i,.int j=>some (.int (i - j)) | _,_=>none
def iMul : D->D->Option D | .int i,.int j=>if Ts i j then some (.int (i * j)) else none | _,_=>none
def fdivD : D->D->Option D | .int i,.int j=>if zal i j then some (.int (i / j)) else none | _,_=>none
def modD : D->D->Option D | .int i,.int j=>if 0 < j then some (.int (i % j)) else none | _,_=>none
def powD : D->D->Option D | .int i,.int j=>if zam i j then some (.int (i ^ j.toNat)) else none | _,_=>none
theorem QM : OpD X (binaryOp .Add) iAdd:=YA zan fun _ _ _=>by simp [Rep]
theorem Wx : OpD X (binaryOp .Sub) subD:=YA zao fun _ _ _=>by simp [Rep]
theorem QN : OpD X (binaryOp .Mult) iMul:=Ux zap fun _ _ _=>by simp [Rep]
theorem yx : OpD X (binaryOp .FloorDiv) fdivD:=Ux Qu fun _ _ _=>by simp [Rep]
theorem zV : OpD X (binaryOp .Mod) modD:=Ux zaq fun _ _ _=>by simp [Rep]
theorem j4 : OpD X (binaryOp .Pow) powD:=Ux zar fun _ _ _=>by simp [Rep]
def sAdd : D->D->Option D | .str i,.str j=>if i.length + j.length <= sizeLine then some (.str (i++j)) else none | _,_=>none
theorem QO : OpD X (binaryOp .Add) sAdd:=by
 refine ⟨_,Xe,fun G H x y v u d Q sG rx ry e k=>?_⟩
 unfold sAdd at e
 split at e
 ·split at e
  ·rename_i hc
   cases e
   have rx:=rx.flat rfl
   have ry:=ry.flat rfl
   simp only [Rep] at rx ry
   exact ⟨_,_,rx,ry,hc,k _ G H (Grow.refl sG) (by simp [Rep])⟩
  ·cases e
 ·cases e
def zaH (K : PySem.W.Frag) : R2:=fun x y H Q=>∃ l b xs zs,x = .ref l /\ y = .ref b /\ SqL K H l xs /\ SqL K H b zs /\ xs.length + zs.length <= sizeLine /\ ∀ p,H p = none->Q (.ref p) (upd H p (.lst (xs++zs)))
def lAdd : D->D->Option D | .lst i,.lst j=>if i.length + j.length <= sizeLine then some (.lst (i++j)) else none | _,_=>none
theorem QP (h : OpR X (binaryOp .Add) (zaH X.K)) : OpD X (binaryOp .Add) lAdd:=by
 refine ⟨_,h,fun G H x y v u d Q sG rx ry e k=>?_⟩
 unfold lAdd at e
 split at e
 ·split at e
  ·rename_i hc
   cases e
   obtain ⟨p1,xs,rfl,q1,r1⟩:=rx.lst sG
   obtain ⟨p2,ys,rfl,q2,r2⟩:=ry.lst sG
   exact ⟨p1,p2,xs,ys,rfl,rfl,q1,q2,by rw [<- r1.length,<- r2.length]; exact hc,fun p hp=>k _ _ _ (Grow.laid sG _ hp) (Ww (sG.free hp) (r1.append r2))⟩
  ·cases e
 ·cases e
def zb3 (f : Int->Int->Bool) : D->D->Option D | .int i,.int j=>some (.bl (f i j)) | _,_=>none
theorem zcx : OpD X (compareOp .LtE) (zb3 fun i j=>decide (i <= j)):=YA zcp fun _ _ _=>by simp [Rep]
theorem qU : OpD X (compareOp .Gt) (zb3 fun i j=>decide (j < i)):=YA zcq fun _ _ _=>by simp [Rep]
theorem Wy : OpR X (compareOp .LtE) (fun x y H Q=>∃ i j,x = .str i /\ y = .str j /\ Q (.bl (!decide (j.cps.toList < i.cps.toList))) H):=by
 intro pins s σ H x y v u Q I rx ry h
 obtain ⟨i,j,rfl,rfl,q⟩:=h
 obtain ⟨t,rfl⟩:=rx
 obtain ⟨t',rfl⟩:=ry
 exact PySem.P.le_str ⟨.bl _,H,I,rfl,q⟩
def sLe : D->D->Option D | .str i,.str j=>some (.bl (!decide (j.cps.toList < i.cps.toList))) | _,_=>none
theorem zaI : OpD X (compareOp .LtE) sLe:=by
 refine ⟨_,Wy,fun G H x y v u d Q sG rx ry e k=>?_⟩
 unfold sLe at e
 split at e
 ·cases e
  have rx:=rx.flat rfl
  have ry:=ry.flat rfl
  simp only [Rep] at rx ry
  exact ⟨_,_,rx,ry,k _ G H (Grow.refl sG) (by simp [Rep])⟩
 ·cases e
def Wz : D->Option V
 | .non=>some .non | .bl b=>some (.bl b) | .int i=>some (.int i) | .str x=>some (.str x) | _=>none
theorem Xl {d : D} {w : V} (e : Wz d = some w) : yW d = true:=by
 cases d <;> first | rfl | cases e
theorem vd {K : PySem.W.Frag} {G H : Hp} {d : D} {v w : V} (e : Wz d = some w) (r : wI K G H d v) : v = w:=by
 have r:=r.flat (Xl e)
 cases d <;> simp only [Wz,Rep] at e r <;> first | cases e | skip
 all_goals exact r
def sEq (n : Bool) : D->D->Option D:=fun x y=>(Wz x).bind fun v=>(Wz y).bind fun u=>if zcm v u = true then some (.bl (if n then !decide (v = u) else decide (v = u))) else none
theorem zaJ : OpD X (compareOp .Eq) (sEq false):=by
 refine ⟨_,zcn,fun G H x y v u d Q sG rx ry e k=>?_⟩
 unfold sEq at e
 obtain ⟨v',e1,e⟩:=obE e
 obtain ⟨u',e2,e⟩:=obE e
 obtain rfl:=vd e1 rx
 obtain rfl:=vd e2 ry
 split at e
 ·rename_i hs
  cases e
  exact ⟨hs,k _ G H (Grow.refl sG) (by simp [Rep])⟩
 ·cases e
theorem zaK : OpD X (compareOp .NotEq) (sEq true):=by
 refine ⟨_,zco,fun G H x y v u d Q sG rx ry e k=>?_⟩
 unfold sEq at e
 obtain ⟨v',e1,e⟩:=obE e
 obtain ⟨u',e2,e⟩:=obE e
 obtain rfl:=vd e1 rx
 obtain rfl:=vd e2 ry
 split at e
 ·rename_i hs
  cases e
  exact ⟨hs,k _ G H (Grow.refl sG) (by simp [Rep])⟩
 ·cases e
def toV : D->V | .non=>.non | .bl b=>.bl b | .int i=>.int i | .str x=>.str x | _=>.non
theorem yZ {K : PySem.W.Frag} {G : Hp} {d : D} {v : V} (e : yW d = true) (r : Rep K G d v) : v = toV d /\ uW v = true:=by
 cases d with
 | non=>simp only [Rep] at r; subst r; exact ⟨rfl,rfl⟩
 | bl b=>simp only [Rep] at r; subst r; exact ⟨rfl,rfl⟩
 | int b=>simp only [Rep] at r; subst r; exact ⟨rfl,rfl⟩
 | str b=>simp only [Rep] at r; subst r; exact ⟨rfl,rfl⟩
 | tup b=>cases e
 | lst b=>cases e
 | dic ks b=>cases e
 | obj _ _ _=>cases e
theorem wb {K : PySem.W.Frag} {G : Hp} : ∀ {ds : List D} {vs : List V},ds.all yW = true->RepL K G ds vs->vs = ds.map toV /\ vs.all uW = true
 | [],_,_,r=>by simp only [RepL] at r; subst r; exact ⟨rfl,rfl⟩
 | d::ds,_,e,r=>by
  simp only [RepL] at r
  obtain ⟨v,us,rfl,r1,r2⟩:=r
  rw [List.all_cons,Bool.and_eq_true] at e
  obtain ⟨h1,h2⟩:=yZ e.1 r1
  obtain ⟨h3,h4⟩:=wb e.2 r2
  exact ⟨by rw [h1,h3]; rfl,by rw [List.all_cons,h2,h4]; rfl⟩
def Xm (x : D) (ds : List D) : Option Bool:=if yW x = true /\ ds.all yW = true then some (inV (toV x) (ds.map toV)) else none
def inD (n : Bool) : D->D->Option D
 | x,.tup ds=>(Xm x ds).map fun b=>.bl (if n then !b else b)
 | x,.lst ds=>(Xm x ds).map fun b=>.bl (if n then !b else b)
 | .str i,.str j=>some (.bl (if n then !(!(Builtin.Str.occurrences j i 0 j.length 1).isEmpty) else !(Builtin.Str.occurrences j i 0 j.length 1).isEmpty))
 | _,_=>none
theorem zcy : OpD X (compareOp .In) (inD false):=by
 refine ⟨_,(Wl.or X8),fun G H x y v u d Q sG rx ry e k=>?_⟩
 unfold inD at e
 split at e
 ·obtain ⟨b,e1,rfl⟩:=omE e
  unfold Xm at e1
  split at e1
  ·rename_i hc
   cases e1
   have ry:=ry.tup
   simp only [Rep] at ry
   obtain ⟨p,vs,rfl,q,r⟩:=ry
   obtain ⟨h1,h2⟩:=yZ hc.1 (rx.flat hc.1)
   obtain ⟨h3,h4⟩:=wb hc.2 r
   subst h1 h3
   exact .inl ⟨p,_,rfl,.inr (sG.sqT q),h2,h4,k _ G H (Grow.refl sG) (by simp [Rep])⟩
  ·cases e1
 ·obtain ⟨b,e1,rfl⟩:=omE e
  unfold Xm at e1
  split at e1
  ·rename_i hc
   cases e1
   obtain ⟨p,vs,rfl,q,r⟩:=ry.lst sG
   obtain ⟨h1,h2⟩:=yZ hc.1 (rx.flat hc.1)
   obtain ⟨h3,h4⟩:=wb hc.2 r
   subst h1 h3
   exact .inl ⟨p,_,rfl,.inl q,h2,h4,k _ G H (Grow.refl sG) (by simp [Rep])⟩
  ·cases e1
 ·cases e
  have rx:=rx.flat rfl
  have ry:=ry.flat rfl
  simp only [Rep] at rx ry
  exact .inr ⟨_,_,rx,ry,k _ G H (Grow.refl sG) (by simp [Rep])⟩
 ·cases e
theorem Uy : OpD X (compareOp .NotIn) (inD true):=by
 refine ⟨_,(jR.or jS),fun G H x y v u d Q sG rx ry e k=>?_⟩
 unfold inD at e
 split at e
 ·obtain ⟨b,e1,rfl⟩:=omE e
  unfold Xm at e1
  split at e1
  ·rename_i hc
   cases e1
   have ry:=ry.tup
   simp only [Rep] at ry
   obtain ⟨p,vs,rfl,q,r⟩:=ry
   obtain ⟨h1,h2⟩:=yZ hc.1 (rx.flat hc.1)
   obtain ⟨h3,h4⟩:=wb hc.2 r
   subst h1 h3
   exact .inl ⟨p,_,rfl,.inr (sG.sqT q),h2,h4,k _ G H (Grow.refl sG) (by simp [Rep])⟩
  ·cases e1
 ·obtain ⟨b,e1,rfl⟩:=omE e
  unfold Xm at e1
  split at e1
  ·rename_i hc
   cases e1
   obtain ⟨p,vs,rfl,q,r⟩:=ry.lst sG
   obtain ⟨h1,h2⟩:=yZ hc.1 (rx.flat hc.1)
   obtain ⟨h3,h4⟩:=wb hc.2 r
   subst h1 h3
   exact .inl ⟨p,_,rfl,.inl q,h2,h4,k _ G H (Grow.refl sG) (by simp [Rep])⟩
  ·cases e1
 ·cases e
  have rx:=rx.flat rfl
  have ry:=ry.flat rfl
  simp only [Rep] at rx ry
  exact .inr ⟨_,_,rx,ry,k _ G H (Grow.refl sG) (by simp [Rep])⟩
 ·cases e
def cutD (xs : List D) (lo hi : Option Int) : List D:=(xs.drop (HT.sIx xs.length 0 lo)).take (HT.sIx xs.length xs.length hi - HT.sIx xs.length 0 lo)
theorem RepL.cut {K : PySem.W.Frag} {G : Hp} {ds : List D} {vs : List V} (r : RepL K G ds vs) (lo hi : Option Int) : RepL K G (cutD ds lo hi) (Tw vs lo hi):=by
 unfold cutD Tw
 rw [r.length]
 exact (r.drop _).take _
def POD (X : Cx) (e : Option Expr) (f : En->Option (Option Int)) : Prop:=∃ t,PO X e t /\ ∀ (B G H : Hp) (δ : En) (σ : St) (o : Option Int) (Q : Option Int->Hp->Prop),zW G H->RepS X.K B G H δ σ->f δ = some o->
 (∀ G' H',Grow G H G' H'->Q o H')->t σ H Q
theorem z5 : POD X none (fun _=>some none):=⟨_,QA,fun B G H δ σ o Q sG rs e k=>by cases e; exact k G H (Grow.refl sG)⟩
@[simp] def wU (f : FE) : En->Option (Option Int):=fun δ=>match f δ with | some (.int i)=>some (some i) | _=>none
theorem zN {e : Expr} {f : FE} (h : PD X e f) : POD X (some e) (wU f):=by
 obtain ⟨t,pt,k1⟩:=h
 refine ⟨_,QB pt,fun B G H δ σ o Q sG rs e k=>?_⟩
 unfold wU at e
 split at e
 ·rename_i i e1
  cases e
  exact k1 B G H δ σ _ _ sG rs e1 fun v G' H' g1 r1=>⟨i,by simpa only [Rep] using r1,k G' H' g1⟩
 ·cases e
def slD (x : D) (lo hi : Option Int) : Option Rs:=match x with
 | .lst ds=>some (.fr (.lst (cutD ds lo hi)))
 | .tup ds=>if HT.sIx ds.length 0 lo = 0 /\ HT.sIx ds.length ds.length hi = ds.length then none else some (.sh (.tup (cutD ds lo hi)))
 | _=>none
def lenD : List D->Option D
 | [.lst ds]=>some (.int ds.length)
 | [.tup ds]=>some (.int ds.length)
 | [.str z]=>if z.length <= sizeLine then some (.int z.length) else none
 | [.dic ks ds]=>some (.int ds.length)
 | _=>none
theorem ym {K : PySem.W.Frag} {G H : Hp} {d : D} {vs : List V} (r : tX K G H [d] vs) : ∃ v,vs = [v] /\ wI K G H d v:=by
 obtain ⟨v,us,rfl,r1,r2⟩:=r
 simp only [tX] at r2
 subst r2
 exact ⟨v,rfl,r1⟩
theorem yc : uZ X (.builtin "len") lenD:=by
 refine ⟨_,(jT.or jU).or (show xp X (.builtin "len") (fun xs H Q=>∃ a kvs,xs = [V.ref a] /\ Rd H a (.dK kvs) /\ Q (.int kvs.length) H) from ?_),fun G H ds vs d Q sG r e k=>?_⟩
 ·intro pins s σ H xs us Q I r h
  obtain ⟨a,kvs,rfl,ha,q⟩:=h
  obtain ⟨u,rfl,ru⟩:=uA r
  cases ru
  exact zcw I ha fun t s' I'=>⟨.int kvs.length,H,I',⟨t,rfl⟩,q⟩
 unfold lenD at e
 split at e
 ·cases e
  obtain ⟨v,rfl,r1⟩:=ym r
  obtain ⟨a,us,rfl,q,rl⟩:=r1.lst sG
  exact .inl (.inl ⟨a,us,rfl,.inl q,k _ G H (Grow.refl sG) (by simp [Rep,rl.length])⟩)
 ·cases e
  obtain ⟨v,rfl,r1⟩:=ym r
  have r1:=r1.tup
  simp only [Rep] at r1
  obtain ⟨a,us,rfl,q,rl⟩:=r1
  exact .inl (.inl ⟨a,us,rfl,.inr (sG.sqT q),k _ G H (Grow.refl sG) (by simp [Rep,rl.length])⟩)
 ·split at e
  ·rename_i hl
   cases e
   obtain ⟨v,rfl,r1⟩:=ym r
   have r1:=r1.flat rfl
   simp only [Rep] at r1
   subst r1
   exact .inl (.inr ⟨_,rfl,hl,k _ G H (Grow.refl sG) (by simp [Rep])⟩)
  ·cases e
 ·cases e
  obtain ⟨v,rfl,r1⟩:=ym r
  obtain ⟨a,us,rfl,q,hl,nd,rl⟩:=r1.dic sG
  refine .inr ⟨a,_,rfl,q,k _ G H (Grow.refl sG) ?_⟩
  have e2 : us.length = _:=rl.length.symm
  simp only [Rep,List.length_zip]
  congr 1
  omega
 ·cases e
def tupD : List D->Option D
 | [.lst ds]=>some (.tup ds)
 | [.tup ds]=>some (.tup ds)
 | _=>none
theorem wu : uZ X (.type "tuple") tupD:=by
 refine ⟨_,qR,fun G H ds vs d Q sG r e k=>?_⟩
 unfold tupD at e
 split at e
 ·cases e
  obtain ⟨v,rfl,r1⟩:=ym r
  obtain ⟨a,us,rfl,q,rl⟩:=r1.lst sG
  exact ⟨a,us,rfl,.inl ⟨q,fun l hl=>k _ _ _ (Grow.laid sG _ hl) (vJ (sG.free hl) rl)⟩⟩
 ·cases e
  obtain ⟨v,rfl,r1⟩:=ym r
  have r1:=r1.tup
  have r2:=r1
  simp only [Rep] at r1
  obtain ⟨a,us,rfl,q,rl⟩:=r1
  exact ⟨a,us,rfl,.inr ⟨sG.sqT q,k _ G H (Grow.refl sG) r2⟩⟩
 ·cases e
end
inductive Out where
 | nx (δ : En) | rt (r : Rs) (δ : En) | bk (δ : En) | ct (δ : En) | ex (c : Ex) (δ : En)
abbrev FS:=En->Option Out
structure Stp (B G G' H' : Hp) : Prop where
 g : zW G G'
 s : zW G' H'
 b : zW B H'
 n : ∀ a o,B a = some o->G a = none->G' a = none
theorem Stp.refl {B G H : Hp} (s : zW G H) (b : zW B H) : Stp B G G H:=⟨zW.refl _,s,b,fun _ _ _ n=>n⟩
theorem Stp.trans {B G G1 H1 G2 H2 : Hp} (a : Stp B G G1 H1) (c : Stp B G1 G2 H2) : Stp B G G2 H2:=⟨a.g.trans c.g,c.s,c.b,fun x o e n=>c.n x o e (a.n x o e n)⟩
theorem Grow.stp {B G H G' H' : Hp} (g : Grow G H G' H') (b : zW B H) : Stp B G G' H':=⟨g.g,g.s,b.trans g.h,fun a o e n=>g.n a o (b a o e) n⟩
def zb4 (X : Cx) (B G : Hp) (D : Ends) : Out->Prop
 | .nx δ'=>∀ σ' G' H',Stp B G G' H'->RepS X.K B G' H' δ' σ'->D.nx σ' H'
 | .bk δ'=>∀ σ' G' H',Stp B G G' H'->RepS X.K B G' H' δ' σ'->D.bk σ' H'
 | .ct δ'=>∀ σ' G' H',Stp B G G' H'->RepS X.K B G' H' δ' σ'->D.ct σ' H'
 | .ex c δ'=>∀ pins σ' G' H' s' e C od,Inv X pins σ' H' s'->Stp B G G' H'->RepS X.K B G' H' δ' σ'->PySem.W.nsIn X.K mainGlobals c.n = some (some (.ref C))->Pay X.K G' c od->Fly X H' s'.heap e C od->X.xe (.ref e) s'
 | .rt (.sh d) δ'=>∀ v σ' G' H',Stp B G G' H'->RepS X.K B G' H' δ' σ'->Rep X.K G' d v->D.rt v H'
 | .rt (.fr m) δ'=>∀ p vs σ' G' H',Stp B G G' H'->RepS X.K B G' H' δ' σ'->H' p = none->m.ok->RepL X.K G' m.vals vs->D.rt (.ref p) (upd H' p (m.ho vs))
def WA (X : Cx) (t : TS) (F : FS) : Prop:=∀ (B G H : Hp) (δ : En) (σ : St) (o : Out) (D : Ends),zW G H->zW B H->RepS X.K B G H δ σ->F δ = some o->zb4 X B G D o->t D σ H
def PSD (X : Cx) (st : Stmt) (F : FS) : Prop:=∃ t,PS X st t /\ WA X t F
def WB (X : Cx) (sts : List Stmt) (F : FS) : Prop:=∃ t,PSs X sts t /\ WA X t F
theorem zb4.mono {X : Cx} {B G G1 H1 : Hp} {D : Ends} {o : Out} (w : zb4 X B G D o) (g : Stp B G G1 H1) : zb4 X B G1 D o:=by
 cases o with
 | nx δ=>exact fun σ' G' H' a=>w σ' G' H' (g.trans a)
 | bk δ=>exact fun σ' G' H' a=>w σ' G' H' (g.trans a)
 | ct δ=>exact fun σ' G' H' a=>w σ' G' H' (g.trans a)
 | ex c δ=>exact fun pins σ' G' H' s' e C od I a=>w pins σ' G' H' s' e C od I (g.trans a)
 | rt r δ=>
  cases r with
  | sh d=>exact fun v σ' G' H' a=>w v σ' G' H' (g.trans a)
  | fr m=>exact fun p vs σ' G' H' a=>w p vs σ' G' H' (g.trans a)
section
variable {X : Cx} {st : Stmt} {rest sts : List Stmt} {F F' : FS} {pos : Pos} {f : FE} {e : Expr}
@[simp] def sNil : FS:=fun δ=>some (.nx δ)
@[simp] def zA (F F' : FS) : FS:=fun δ=>match F δ with | some (.nx δ')=>F' δ' | o=>o
theorem zg : WB X [] sNil:=⟨_,Qs,fun B G H δ σ o D sG sB rs e w=>by cases e; exact w σ G H (Stp.refl sG sB) rs⟩
theorem za (h1 : PSD X st F) (h2 : WB X rest F') : WB X (st::rest) (zA F F'):=by
 obtain ⟨t,p1,k1⟩:=h1
 obtain ⟨u,p2,k2⟩:=h2
 refine ⟨_,Uj p1 p2,fun B G H δ σ o D sG sB rs e w=>?_⟩
 unfold zA at e
 show t { D with nx:=u D } σ H
 cases e1 : F δ with
 | none=>rw [e1] at e; cases e
 | some o1=>
  rw [e1] at e
  cases o1 with
  | nx δ'=>exact k1 B G H δ σ (.nx δ') _ sG sB rs e1 fun σ' G' H' a r=>k2 B G' H' δ' σ' o D a.s a.b r e (w.mono a)
  | rt d δ'=>
   cases e
   cases d with
   | sh d=>exact k1 B G H δ σ (.rt (.sh d) δ') _ sG sB rs e1 w
   | fr m=>exact k1 B G H δ σ (.rt (.fr m) δ') _ sG sB rs e1 w
  | bk δ'=>cases e; exact k1 B G H δ σ (.bk δ') _ sG sB rs e1 w
  | ct δ'=>cases e; exact k1 B G H δ σ (.ct δ') _ sG sB rs e1 w
  | ex c δ'=>cases e; exact k1 B G H δ σ (.ex c δ') _ sG sB rs e1 w
@[simp] def yu (i : Nat) (f : FE) : FS:=fun δ=>(f δ).map fun d=>.nx (δ.set i (some (.sh d)))
theorem zy (i : Nat) {x : Str} {pos' : Pos} (hN : X.N.Nodup) (he : PD X e f) (hi : X.N[i]? = some x:=by rfl) (hx : Loc X.env.scope x:=by first | exact Or.inl rfl | exact Or.inr rfl)
  (hs : swapsWith e (some (.Name x pos')) pos.line X.env = pure false:=by rfl) (hf : X.fn x = true \/ X.env.scope.names.lookup x = some .local:=by first | exact .inl rfl | exact .inr rfl) : PSD X (.Assign [.Name x pos'] e pos) (yu i f):=by
 obtain ⟨t,pt,k⟩:=he
 refine ⟨_,X0 hN hi hx pt hs hf,fun B G H δ σ o D sG sB rs e w=>?_⟩
 unfold yu at e
 obtain ⟨d,e1,rfl⟩:=omE e
 exact k B G H δ σ d _ sG rs e1 fun v G' H' g r=>w _ G' H' (g.stp sB) ((rs.grow g).set i r)
@[simp] def yo (f : FR) : FS:=fun δ=>(f δ).map fun r=>.rt r δ
theorem zp {f : FR} (he : PR X e f) : PSD X (.Return (some e) pos) (yo f):=by
 obtain ⟨t,pt,k⟩:=he
 refine ⟨_,XZ pt,fun B G H δ σ o D sG sB rs e w=>?_⟩
 unfold yo at e
 obtain ⟨d,e1,rfl⟩:=omE e
 refine k B G H δ σ d _ sG rs e1 ?_
 cases d with
 | sh d=>exact fun v G' H' g r=>w v σ G' H' (g.stp sB) (rs.grow g) r
 | fr m=>exact fun p vs G' H' g=>w p vs σ G' H' (g.stp sB) (rs.grow g)
theorem WC {H : Hp} {a : Addr} {o : HO} (h : H a = some o) : upd (fun b=>if b = a then none else H b) a o = H:=by
 funext b
 by_cases hb : b = a
 ·subst hb; rw [yh,h]
 ·rw [zR hb,if_neg hb]
theorem qd {G H : Hp} {a : Addr} (s : zW G H) (n : G a = none) : zW G (fun b=>if b = a then none else H b):=fun b o e=>by
 have hb : b ≠ a:=fun z=>by rw [z,n] at e; cases e
 show (if b = a then none else H b) = some o
 rw [if_neg hb]
 exact s b o e
@[simp] def ve (i : Nat) : FS:=fun δ=>match δ[i]? with | some (some (.pv m _))=>some (.rt (.fr m) (δ.set i none)) | some (some (.sh d))=>some (.rt (.sh d) δ) | _=>none
theorem RepS.erase {K : PySem.W.Frag} {B G H : Hp} {δ : En} {σ : St} (r : RepS K B G H δ σ) {i : Nat} {m : Mo} {o : Option Addr} {a : Addr} (em : δ[i]? = some (some (.pv m o))) (ea : σ[i]? = some (some (.ref a))) :
  RepS K B G (fun b=>if b = a then none else H b) (δ.set i none) σ:=by
 refine ⟨by simp [r.len],fun j x e=>?_,fun j l x y o o' hjl e1 e2=>?_⟩
 ·rcases yM e with ⟨rfl,e'⟩ | ⟨hj,e'⟩
  ·cases e'
  ·obtain ⟨v,h1,h2⟩:=r.at_ j x e'
   refine ⟨v,h1,?_⟩
   cases x with
   | sh d=>exact h2
   | ob c=>exact h2
   | tk P w ts=>
    obtain ⟨_,z1,a1,us1,rfl,_,_,z3,_⟩:=r.at_ i _ em
    rw [ea] at z1
    cases z1
    refine Ue.mono h2 (zW.refl _) fun b φ _ e _ n=>⟨?_,n⟩
    have hne : b ≠ a:=fun z=>by subst z; rw [z3] at e; cases m <;> cases e
    show (if b = a then none else H b) = _
    rw [if_neg hne]; exact e
   | pv m2 o2=>
    obtain ⟨a2,us2,rfl,q1,q2,q3,q4,q5⟩:=h2
    have hne : a2 ≠ a:=fun z=>by
     subst z
     exact r.ap i j m m2 _ _ hj em e' (ea.trans h1.symm)
    exact ⟨a2,us2,rfl,q1,q2,by show (if a2 = a then none else H a2) = _; rw [if_neg hne]; exact q3,q4,q5⟩
 ·rcases yM e1 with ⟨rfl,e'⟩ | ⟨_,f1⟩
  ·cases e'
  ·rcases yM e2 with ⟨rfl,e'⟩ | ⟨_,f2⟩
   ·cases e'
   ·exact r.ap j l x y o o' hjl f1 f2
theorem wv (i : Nat) {x : Str} {p : Pos} (hN : X.N[i]? = some x:=by rfl) (hv : Vis X.env.scope x:=by first | exact Or.inl rfl | exact Or.inr (Or.inl rfl) | exact Or.inr (Or.inr rfl)) (hd : (x == ("__debug__" : Str)) = false:=by decide)
  (hcd : (x == ("__classdict__" : Str)) = false:=by decide) : PSD X (.Return (some (.Name x p)) pos) (ve i):=by
 refine ⟨_,XZ (wW hN hv hd hcd),fun B G H δ σ o D sG sB rs e w=>?_⟩
 unfold ve at e
 split at e
 ·rename_i m _ em
  cases e
  obtain ⟨v,h1,a,vs,rfl,h2,h3,h4,h5,h6,_⟩:=rs.at_ i _ em
  refine ⟨_,h1,?_⟩
  have q:=w a vs σ G (fun b=>if b = a then none else H b) ⟨zW.refl _,qd sG h3,qd sB h2,fun _ _ _ n=>n⟩ (rs.erase em h1) (by simp) h5 h6
  rw [WC h4] at q
  exact q
 ·rename_i d ed
  cases e
  obtain ⟨v,h1,h2⟩:=rs.at_ i _ ed
  exact ⟨v,h1,w v σ G H (Stp.refl sG sB) rs h2⟩
 ·cases e
@[simp] def tY (i : Nat) (f : FR) : FS:=fun δ=>(f δ).map fun r=>.nx (δ.set i (some r.sl))
theorem ww (i : Nat) {x : Str} {pos' : Pos} {f : FR} (hN : X.N.Nodup) (he : PR X e f) (hi : X.N[i]? = some x:=by rfl) (hx : Loc X.env.scope x:=by first | exact Or.inl rfl | exact Or.inr rfl)
  (hs : swapsWith e (some (.Name x pos')) pos.line X.env = pure false:=by rfl) (hf : X.fn x = true \/ X.env.scope.names.lookup x = some .local:=by first | exact .inl rfl | exact .inr rfl) : PSD X (.Assign [.Name x pos'] e pos) (tY i f):=by
 obtain ⟨t,pt,k⟩:=he
 refine ⟨_,X0 hN hi hx pt hs hf,fun B G H δ σ o D sG sB rs e w=>?_⟩
 unfold tY at e
 obtain ⟨d,e1,rfl⟩:=omE e
 refine k B G H δ σ d _ sG rs e1 ?_
 cases d with
 | sh d=>exact fun v G' H' g r=>w _ G' H' (g.stp sB) ((rs.grow g).set i r)
 | fr m=>
  intro p vs G' H' g hp ok rl
  have g2 : Grow G' H' G' (upd H' p (m.ho vs)):=⟨zW.refl _,yi _ hp,g.s.trans (yi _ hp),fun _ _ _ n=>n⟩
  have g3:=g.trans g2
  refine w _ G' _ (g3.stp sB) ((rs.grow g3).put i (x:=.pv m none) ⟨p,vs,rfl,(sB.trans g.h).free hp,g.s.free hp,yh,ok,rl,fun _ z=>nomatch z⟩ fun m' _ _ j y _ hj ej q=>?_)
  obtain ⟨v,h1,a,us,rfl,_,_,h4,_,_,_⟩:=(rs.grow g).at_ j _ ej
  rw [h1] at q
  cases q
  rw [hp] at h4
  cases h4
theorem RepS.upd {K : PySem.W.Frag} {B G H : Hp} {δ : En} {σ : St} (r : RepS K B G H δ σ) {i : Nat} {m m' : Mo} {o : Option Addr} {a : Addr} {us : List V} (em : δ[i]? = some (some (.pv m o))) (ea : σ[i]? = some (some (.ref a))) (hB : B a = none) (hG : G a = none) (ok : m'.ok) (rl : RepL K G m'.vals us) :
  RepS K B G (L2.upd H a (m'.ho us)) (δ.set i (some (.pv m' o))) σ:=by
 refine ⟨by simp [r.len],fun j x e=>?_,fun j l x y o1 o2 hjl e1 e2=>?_⟩
 ·rcases yM e with ⟨rfl,e'⟩ | ⟨hj,e'⟩
  ·cases e'
   obtain ⟨v,w1,b,_,rfl,_,_,_,_,_,tg⟩:=r.at_ _ _ em
   rw [ea] at w1
   cases w1
   exact ⟨_,ea,a,us,rfl,hB,hG,yh,ok,rl,tg⟩
  ·obtain ⟨v,h1,h2⟩:=r.at_ j x e'
   refine ⟨v,h1,?_⟩
   cases x with
   | sh d=>exact h2
   | ob c=>exact h2
   | tk P w ts=>
    obtain ⟨_,z1,a1,us1,rfl,_,_,z3,_⟩:=r.at_ i _ em
    rw [ea] at z1
    cases z1
    refine Ue.mono h2 (zW.refl _) fun b φ _ e _ n=>⟨?_,n⟩
    have hne : b ≠ a:=fun z=>by subst z; rw [z3] at e; cases m <;> cases e
    rw [zR hne]; exact e
   | pv m2 o2=>
    obtain ⟨a2,us2,rfl,q1,q2,q3,q4,q5⟩:=h2
    have hne : a2 ≠ a:=fun z=>by
     subst z
     exact r.ap i j m m2 _ _ hj em e' (ea.trans h1.symm)
    exact ⟨a2,us2,rfl,q1,q2,by rw [zR hne]; exact q3,q4,q5⟩
 ·have old : ∀ (k : Nat) (z : Mo) (u : Option Addr),(δ.set i (some (.pv m' o)))[k]? = some (some (.pv z u))->∃ z' u',δ[k]? = some (some (.pv z' u')):=fun k z u e=>by
   rcases yM e with ⟨rfl,e'⟩ | ⟨_,e'⟩
   ·exact ⟨m,o,em⟩
   ·exact ⟨z,u,e'⟩
  obtain ⟨x',u1,f1⟩:=old j x _ e1
  obtain ⟨y',u2,f2⟩:=old l y _ e2
  exact r.ap j l x' y' _ _ hjl f1 f2
theorem qV {B G H : Hp} {a : Addr} {o : HO} (sG : zW G H) (sB : zW B H) (hB : B a = none) (hG : G a = none) : Stp B G G (L2.upd H a o):=
 ⟨zW.refl _,fun b u e=>by rw [zR (zY e hG)]; exact sG b u e,fun b u e=>by rw [zR (zY e hB)]; exact sB b u e,fun _ _ _ n=>n⟩
@[simp] def TF (i : Nat) (f : FE) : FS:=fun δ=>match δ[i]? with
 | some (some (.pv (.lst ds) o))=>(f δ).bind fun d=>if ds.length < sizeLine then some (.nx (δ.set i (some (.pv (.lst (ds++[d])) o)))) else none
 | _=>none
theorem qW (i : Nat) {x : Str} {p p1 p2 : Pos} (he : PD X e f) (hN : X.N[i]? = some x:=by rfl) (hv : Vis X.env.scope x:=by first | exact Or.inl rfl | exact Or.inr (Or.inl rfl) | exact Or.inr (Or.inr rfl))
  (hb : ∀ {t : TE} {tx : TE},PE X (.Name x p) tx->PE X e t->PE X (.Call (.Attribute (.Name x p) "append" p1) [e] [] p2) (tBM X.K "list" rAppend tx (qO t tNil)):=by
   intro t tx hx ht; exact jV PySem.F.plainAttrs_list PySem.F.slot_list_append PySem.F.type_list_append Wm hx (ya ht yJ))
  (hd : (x == ("__debug__" : Str)) = false:=by decide) (hcd : (x == ("__classdict__" : Str)) = false:=by decide) (hs : swapsWith (.Call (.Attribute (.Name x p) "append" p1) [e] [] p2) none pos.line X.env = pure false:=by rfl) :
  PSD X (.Expr (.Call (.Attribute (.Name x p) "append" p1) [e] [] p2) pos) (TF i f):=by
 obtain ⟨t,pt,k⟩:=he
 refine ⟨_,XY (hb (wW hN hv hd hcd) pt) hs,fun B G H δ σ o D sG sB rs e w=>?_⟩
 unfold TF at e
 split at e
 ·rename_i ds o em
  obtain ⟨d,e1,e⟩:=obE e
  split at e
  ·rename_i hl
   cases e
   obtain ⟨v,h1,a,vs,rfl,h2,h3,h4,h5,h6,_⟩:=rs.at_ i _ em
   refine ⟨_,h1,.inl ⟨rfl,_,SqL.of h4⟩,k B G H δ σ d _ sG rs e1 fun u G1 H1 g1 r1=>?_⟩
   have hH : H1 a = some (.lst vs):=g1.h _ _ h4
   have hG1 : G1 a = none:=g1.n a _ h4 h3
   have rl : RepL X.K G1 (ds++[d]) (vs++[u]):=(h6.mono g1.g).snoc r1
   refine ⟨a,vs,u,rfl,rfl,hH,by rw [<- RepL.length h6]; exact hl,?_⟩
   exact w σ G1 _ ((g1.stp sB).trans (qV g1.s (sB.trans g1.h) h2 hG1)) ((rs.grow g1).upd (m':=.lst (ds++[d])) (us:=vs++[u]) em h1 h2 hG1 True.intro rl)
  ·cases e
 ·cases e
@[simp] def TH (i : Nat) (δ : En) : En:=match δ[i]? with | some (some (.pv m _))=>δ.set i (some (.sh m.d)) | _=>δ
theorem RepS.pub {K : PySem.W.Frag} {B G H : Hp} {δ : En} {σ : St} (r : RepS K B G H δ σ) (sG : zW G H) (sB : zW B H) (i : Nat) : ∃ G',Stp B G G' H /\ RepS K B G' H (TH i δ) σ:=by
 unfold TH
 split
 ·rename_i m _ em
  obtain ⟨v,h1,a,vs,rfl,h2,h3,h4,h5,h6,_⟩:=r.at_ i _ em
  have st : Stp B G (L2.upd G a (m.ho vs)) H:=by
   refine ⟨yi _ h3,fun b u e=>?_,sB,fun b o e n=>?_⟩
   ·by_cases hb : b = a
    ·subst hb; rw [yh] at e; cases e; exact h4
    ·rw [zR hb] at e; exact sG b u e
   ·rw [zR (zY e h2)]; exact n
  refine ⟨_,st,by simp [r.len],fun j x e=>?_,fun j l x y o1 o2 hjl e1 e2=>?_⟩
  ·rcases yM e with ⟨rfl,e'⟩ | ⟨hj,e'⟩
   ·cases e'
    exact ⟨_,h1,Wu h3 h5 h6⟩
   ·obtain ⟨v,q1,q2⟩:=r.at_ j x e'
    refine ⟨v,q1,?_⟩
    cases x with
    | sh d=>exact Rep.mono st.g q2
    | ob c=>exact TC.mono st.g q2
    | tk P w ts=>
     refine Ue.mono q2 st.g fun b φ _ e _ n=>⟨e,?_⟩
     have hne : b ≠ a:=fun z=>by subst z; rw [h4] at e; cases m <;> cases e
     rw [zR hne]; exact n
    | pv m2 o2=>
     obtain ⟨a2,us2,rfl,p1,p2,p3,p4,p5,p6⟩:=q2
     have hne : a2 ≠ a:=fun z=>by
      subst z
      exact r.ap i j m m2 _ _ hj em e' (h1.trans q1.symm)
     exact ⟨a2,us2,rfl,p1,by rw [zR hne]; exact p2,p3,p4,p5.mono st.g,p6⟩
  ·have old : ∀ (k : Nat) (z : Mo) (u : Option Addr),(δ.set i (some (.sh m.d)))[k]? = some (some (.pv z u))->δ[k]? = some (some (.pv z u)):=fun k z u e=>by
    rcases yM e with ⟨rfl,e'⟩ | ⟨_,e'⟩
    ·cases e'
    ·exact e'
   exact r.ap j l x y _ _ hjl (old j x _ e1) (old l y _ e2)
 ·exact ⟨G,Stp.refl sG sB,r⟩
theorem WD (i : Nat) (h : PSD X st F) : PSD X st (fun δ=>F (TH i δ)):=by
 obtain ⟨t,pt,k⟩:=h
 refine ⟨t,pt,fun B G H δ σ o D sG sB rs e w=>?_⟩
 obtain ⟨G',s1,r1⟩:=rs.pub sG sB i
 exact k B G' H _ σ o D s1.s sB r1 e (w.mono s1)
@[simp] def sIf (c : En->Option Bool) (F F' : FS) : FS:=fun δ=>(c δ).bind fun b=>if b = true then F δ else F' δ
theorem zO {c : Expr} {a b : List Stmt} {fb : En->Option Bool} (hc : PDT X c fb) (ha : WB X a F) (hb : WB X b F') : PSD X (.If c a b pos) (sIf fb F F'):=by
 obtain ⟨tc,pc,kc⟩:=hc
 obtain ⟨ta,pa,ka⟩:=ha
 obtain ⟨tb,pb,kb⟩:=hb
 refine ⟨_,zcg pc pa pb,fun B G H δ σ o D sG sB rs e w=>?_⟩
 unfold sIf at e
 obtain ⟨x,e1,e⟩:=obE e
 refine kc B G H δ σ x _ sG rs e1 fun G1 H1 g1=>?_
 cases x with
 | true=>rw [if_pos rfl] at e ⊢; exact ka B G1 H1 δ σ o D g1.s (sB.trans g1.h) (rs.grow g1) e (w.mono (g1.stp sB))
 | false=>rw [if_neg Bool.false_ne_true] at e ⊢; exact kb B G1 H1 δ σ o D g1.s (sB.trans g1.h) (rs.grow g1) e (w.mono (g1.stp sB))
structure Wk (K : PySem.W.Frag) (J : It) (G : Hp) (xs : List D) : Prop where
 go : ∀ i d G' H',xs[i]? = some d->zW G G'->zW G' H'->J.go i H' /\ ∀ x H2,J.yld i H' x H2->H2 = H' /\ Rep K G' d x
 stop : ∀ G' H',zW G G'->zW G' H'->J.stop xs.length H'
def PID (X : Cx) (tg iter : Expr) (f : En->Option (List D)) : Prop:=∃ wi,PI X tg iter wi /\ ∀ (B G H : Hp) (δ : En) (σ : St) (xs : List D) (R : It->Hp->Prop),zW G H->RepS X.K B G H δ σ->f δ = some xs->
 (∀ J G' H',Grow G H G' H'->Wk X.K J G' xs->R J H')->wi σ H R
def signs (z : Str) : List D:=z.cps.toList.map fun c=>.str ⟨#[c]⟩
def wV (lo : Int) (n : Nat) : List D:=(List.range n).map fun (k : Nat)=>.int (lo + (k : Int))
@[simp] def WF (f : FE) : En->Option (List D):=fun δ=>match f δ with | some (.int j)=>if -(2 ^ 62) <= j /\ j < 2 ^ 62 then some (wV 0 j.toNat) else none | _=>none
variable {tg : Expr}
theorem y9 {p : Pos} (hm : X.mg "range" = none) (he : PD X e f) (hg : Gl X "range":=by rfl) (hs : starEach [e] X.env = [(false,eval e X.env)]:=by rfl) : PID X tg (.Call (.Name "range" p) [e] [] pos) (WF f):=by
 obtain ⟨t,pt,k⟩:=he
 refine ⟨_,X2 hg hm (ya pt yJ hs) hs,fun B G H δ σ xs R sG rs e q=>?_⟩
 unfold WF at e
 split at e
 ·rename_i j e1
  split at e
  ·rename_i hj
   cases e
   refine k B G H δ σ _ _ sG rs e1 fun v G1 H1 g1 r1=>?_
   simp only [Rep] at r1
   subst r1
   refine ⟨j,rfl,hj.1,hj.2,q _ G1 H1 g1 ⟨fun i d G' H' ed a1 b1=>?_,fun G' H' a1 b1=>?_⟩⟩
   ·unfold wV at ed
    rw [List.getElem?_map] at ed
    obtain ⟨c,ec,rfl⟩:=omE ed
    obtain ⟨hi,hc⟩:=List.getElem?_eq_some_iff.mp ec
    rw [List.length_range] at hi
    rw [List.getElem_range] at hc
    subst hc
    refine ⟨hi,fun x' H2 y=>⟨y.1,?_⟩⟩
    rw [y.2]
    simp [Rep]
   ·show j.toNat <= (wV 0 j.toNat).length
    simp [wV]
  ·cases e
 ·cases e
def Xn (i : Nat) (F : FS) : List D->FS
 | [],δ=>some (.nx δ)
 | x::xs,δ=>match F (δ.set i (some (.sh x))) with
  | some (.nx δ')=>Xn i F xs δ'
  | some (.ct δ')=>Xn i F xs δ'
  | some (.ex c δ')=>some (.ex c δ')
  | some (.bk δ')=>some (.nx δ')
  | some (.rt d δ')=>some (.rt d δ')
  | none=>none
@[simp] def XU (i : Nat) (f : En->Option (List D)) (F : FS) : FS:=fun δ=>(f δ).bind fun xs=>Xn i F xs δ
theorem wc (i : Nat) {x : Str} {pos' : Pos} {iter : Expr} {body : List Stmt} {g : En->Option (List D)} (hN : X.N.Nodup) (hc : X.calm = true) (hp : PassesOwn (model X.prog X.w) X.A X.env X.xe) (hi : PID X (.Name x pos') iter g) (hb : WB X body F)
  (hix : X.N[i]? = some x:=by rfl) (hx : Loc X.env.scope x:=by first | exact Or.inl rfl | exact Or.inr rfl) (hf : X.fn x = true \/ X.env.scope.names.lookup x = some .local:=by first | exact .inl rfl | exact .inr rfl)
  (hs : ∀ x,foldedSetIterable iter X.env x = pure x:=by intro _; rfl) : PSD X (.For (.Name x pos') iter body [] pos) (XU i g F):=by
 obtain ⟨wi,pw,kw⟩:=hi
 obtain ⟨tb,pb,kb⟩:=hb
 refine ⟨_,zaj hp hc pw (qN hN hix hx hf) pb hs,fun B G H δ σ o D sG sB rs e w=>?_⟩
 unfold XU at e
 obtain ⟨xs,e1,e⟩:=obE e
 refine kw B G H δ σ xs _ sG rs e1 fun J G1 H1 g1 wk=>?_
 have st1 : Stp B G G1 H1:=g1.stp sB
 refine ⟨fun n m σ' H'=>∃ δ' G',m = xs.length - n /\ n <= xs.length /\ Stp B G1 G' H' /\ RepS X.K B G' H' δ' σ' /\ Xn i F (xs.drop n) δ' = some o,⟨_,δ,G1,rfl,Nat.zero_le _,Stp.refl st1.s st1.b,rs.grow g1,by simpa using e⟩,?_⟩
 rintro n m σ' H' ⟨δ',G',rfl,hn,a1,rs',eo⟩
 by_cases hlt : n < xs.length
 ·right
  obtain ⟨go,yl⟩:=wk.go n xs[n] G' H' (by simp [hlt]) a1.g a1.s
  rw [List.drop_eq_getElem_cons hlt] at eo
  unfold Xn at eo
  refine ⟨go,fun σ2 H2=>∃ m',m' < xs.length - n /\ ∃ δ2 G2,m' = xs.length - (n + 1) /\ n + 1 <= xs.length /\ Stp B G1 G2 H2 /\ RepS X.K B G2 H2 δ2 σ2 /\ Xn i F (xs.drop (n + 1)) δ2 = some o,fun σ2 H2 z=>z,fun x H2 y=>?_⟩
  obtain ⟨rfl,rx⟩:=yl x H2 y
  show tb _ (σ'.set i (some x)) H2
  have again : ∀ {δ2 : En} {σ2 : St} {G2 H3 : Hp},Stp B G' G2 H3->RepS X.K B G2 H3 δ2 σ2->Xn i F (xs.drop (n + 1)) δ2 = some o->
    ∃ m',m' < xs.length - n /\ ∃ δ2 G2,m' = xs.length - (n + 1) /\ n + 1 <= xs.length /\ Stp B G1 G2 H3 /\ RepS X.K B G2 H3 δ2 σ2 /\ Xn i F (xs.drop (n + 1)) δ2 = some o:=
   fun {δ2 σ2 G2 H3} a r e=>⟨xs.length - (n + 1),by omega,δ2,G2,rfl,hlt,a1.trans a,r,e⟩
  cases eF : F (δ'.set i (some (.sh xs[n]))) with
  | none=>rw [eF] at eo; cases eo
  | some o1=>
   rw [eF] at eo
   refine kb B G' H2 _ _ o1 _ a1.s a1.b (rs'.set i rx) eF ?_
   cases o1 with
   | nx δ2=>exact fun σ2 G2 H3 a r=>again a r eo
   | ct δ2=>exact fun σ2 G2 H3 a r=>again a r eo
   | ex c δ2=>
    cases eo
    exact fun pins σ2 G2 H3 s3 e C od I a=>w pins σ2 G2 H3 s3 e C od I (st1.trans (a1.trans a))
   | bk δ2=>
    cases eo
    exact fun σ2 G2 H3 a r=>w σ2 G2 H3 (st1.trans (a1.trans a)) r
   | rt r δ2=>
    cases eo
    cases r with
    | sh d=>exact fun v σ2 G2 H3 a r=>w v σ2 G2 H3 (st1.trans (a1.trans a)) r
    | fr m=>exact fun p vs σ2 G2 H3 a=>w p vs σ2 G2 H3 (st1.trans (a1.trans a))
 ·left
  have hnn : n = xs.length:=by omega
  subst hnn
  rw [List.drop_of_length_le (Nat.le_refl _)] at eo
  cases eo
  exact ⟨wk.stop G' H' a1.g a1.s,w σ' G' H' (st1.trans a1) rs'⟩
def wF (c : D->Option Bool) (g : D->Option D) : List D->Option (List D)
 | []=>some []
 | x::xs=>(c x).bind fun b=>if b = true then (g x).bind fun y=>(wF c g xs).bind fun ys=>some (y::ys) else wF c g xs
@[simp] def csD (nl : Nat) (js : List Nat) (δ : En) : En:=List.replicate nl none++js.map fun j=>(δ[j]?).join
@[simp] def yD (nl : Nat) (js : List Nat) (i : Nat) (it : En->Option (List D)) (c : En->Option Bool) (g : FE) : FR:=fun δ=>(it δ).bind fun xs=>
 if xs.length <= sizeLine then (wF (fun x=>c ((csD nl js δ).set i (some (.sh x)))) (fun x=>g ((csD nl js δ).set i (some (.sh x)))) xs).map fun ys=>.fr (.lst ys) else none
def ZE (X : Cx) (ifs : List Expr) (f : En->Option Bool) : Prop:=∃ t,TB X ifs t /\ ∀ (B G H : Hp) (δ : En) (σ : St) (b : Bool) (Q : Bool->Hp->Prop),zW G H->RepS X.K B G H δ σ->f δ = some b->
 (∀ G' H',Grow G H G' H'->Q b H')->t σ H Q
@[simp] def bYes : En->Option Bool:=fun _=>some true
theorem yj : ZE X [] bYes:=⟨_,Yr,fun B G H δ σ b Q sG rs e k=>by cases e; exact k G H (Grow.refl sG)⟩
theorem vf {c : Expr} {fb : En->Option Bool} (h : PDT X c fb) : ZE X [c] fb:=by
 obtain ⟨t,pt,k⟩:=h
 exact ⟨t,Ut pt,k⟩
theorem WG {nl : Nat} {js : List Nat} {α : Type} {l : List (Option α)} {i : Nat} {x : α} (e : (List.replicate nl none++js.map fun j=>(l[j]?).join)[i]? = some (some x)) : ∃ j,nl <= i /\ js[i - nl]? = some j /\ l[j]? = some (some x):=by
 rcases Nat.lt_or_ge i nl with z | z
 ·rw [List.getElem?_append_left (by simpa using z),List.getElem?_replicate,if_pos z] at e; cases e
 ·rw [List.getElem?_append_right (by simpa using z),List.length_replicate,List.getElem?_map] at e
  obtain ⟨j,ej,e⟩:=omE e
  refine ⟨j,z,ej,?_⟩
  cases q : l[j]? with
  | none=>rw [q] at e; cases e
  | some y=>rw [q] at e; rw [show y = some x from e]
theorem WH {nl : Nat} {js : List Nat} {α : Type} {l : List (Option α)} {i j : Nat} {x : Option α} (z : nl <= i) (ej : js[i - nl]? = some j) (e : l[j]? = some x) : (List.replicate nl none++js.map fun j=>(l[j]?).join)[i]? = some x:=by
 rw [List.getElem?_append_right (by simpa using z),List.length_replicate,List.getElem?_map,ej,Option.map_some,e]
 rfl
theorem RepS.cs {K : PySem.W.Frag} {B G H : Hp} {δ : En} {σ : St} (r : RepS K B G H δ σ) (nl : Nat) (js : List Nat) (hj : js.Nodup) : RepS K B G H (csD nl js δ) (vG nl js σ):=by
 refine ⟨by simp [csD,vG],fun i x e=>?_,fun i j x y o1 o2 hij e1 e2=>?_⟩
 ·obtain ⟨j,z,ej,ed⟩:=WG e
  obtain ⟨v,h1,h2⟩:=r.at_ j _ ed
  exact ⟨v,WH z ej h1,h2⟩
 ·obtain ⟨j1,z1,ej1,ed1⟩:=WG e1
  obtain ⟨j2,z2,ej2,ed2⟩:=WG e2
  have hne : j1 ≠ j2:=fun q=>by
   subst q
   have h1:=(List.getElem?_eq_some_iff.mp ej1)
   have h2:=(List.getElem?_eq_some_iff.mp ej2)
   obtain ⟨l1,q1⟩:=h1
   obtain ⟨l2,q2⟩:=h2
   have:=(List.getElem_inj hj).mp (q1.trans q2.symm)
   omega
  obtain ⟨v1,h1,_⟩:=r.at_ j1 _ ed1
  obtain ⟨v2,h2,_⟩:=r.at_ j2 _ ed2
  have:=r.ap j1 j2 x y _ _ hne ed1 ed2
  rw [show (vG nl js σ)[i]? = σ[j1]? from (WH z1 ej1 h1).trans h1.symm,show (vG nl js σ)[j]? = σ[j2]? from (WH z2 ej2 h2).trans h2.symm]
  exact this
theorem u8 {c : D->Option Bool} {g : D->Option D} : ∀ {xs ys : List D},wF c g xs = some ys->ys.length <= xs.length
 | [],ys,e=>by cases e; exact Nat.le_refl _
 | x::xs,ys,e=>by
  unfold wF at e
  obtain ⟨b,e1,e⟩:=obE e
  split at e
  ·obtain ⟨y,e2,e⟩:=obE e
   obtain ⟨zs,e3,e⟩:=obE e
   cases e
   have:=u8 e3
   simp only [List.length_cons]; omega
  ·have:=u8 e
   simp only [List.length_cons]; omega
theorem qe {wi : TI} {ti : TT} {te : TE} {it : En->Option (List D)} {c : En->Option Bool} {g : FE} {nl i : Nat} {js : List Nat}
  (kw : ∀ (B G H : Hp) (δ : En) (σ : St) (xs : List D) (R : It->Hp->Prop),zW G H->RepS X.K B G H δ σ->it δ = some xs->(∀ J G' H',Grow G H G' H'->Wk X.K J G' xs->R J H')->wi σ H R)
  (kt : ∀ (B G H : Hp) (δ : En) (σ : St) (b : Bool) (Q : Bool->Hp->Prop),zW G H->RepS X.K B G H δ σ->c δ = some b->(∀ G' H',Grow G H G' H'->Q b H')->ti σ H Q) (ke : Xj X.K te g) (hjs : js.Nodup) :
  Yx X.K (Wr wi (vG nl js) (jK i) ti te) (yD nl js i it c g):=fun B G H δ σ d Q sG rs e k=>by
 unfold yD at e
 obtain ⟨xs,e1,e⟩:=obE e
 split at e
 ·rename_i hl
  obtain ⟨zs,e2,rfl⟩:=omE e
  refine kw B G H δ σ xs _ sG rs e1 fun J G1 H1 g1 wk=>?_
  refine ⟨fun n m ys H'=>∃ G' ws us,m = xs.length - n /\ n <= xs.length /\ Grow G H G' H' /\ zW G1 G' /\ RepL X.K G' ws ys /\ zs = ws++us /\ wF (fun x=>c ((csD nl js δ).set i (some (.sh x)))) (fun x=>g ((csD nl js δ).set i (some (.sh x)))) (xs.drop n) = some us,
   ⟨_,G1,[],zs,rfl,Nat.zero_le _,g1,zW.refl _,by simp [RepL],rfl,by simpa using e2⟩,?_⟩
  rintro n m ys H' ⟨G',ws,us,rfl,hn,gr,s1,rl,rfl,ec⟩
  have hwl : (ws++us).length <= xs.length:=u8 e2
  refine ⟨by rw [<- rl.length]; rw [List.length_append] at hwl; omega,?_⟩
  by_cases hlt : n < xs.length
  ·right
   obtain ⟨go,yl⟩:=wk.go n xs[n] G' H' (by simp [hlt]) s1 gr.s
   rw [List.drop_eq_getElem_cons hlt] at ec
   unfold wF at ec
   obtain ⟨b,ec1,ec⟩:=obE ec
   refine ⟨go,fun x H2 y=>?_⟩
   obtain ⟨rfl,rx⟩:=yl x H2 y
   show ti ((vG nl js σ).set i (some x)) H2 _
   have rs2:=((rs.grow gr).cs nl js hjs).set i rx
   refine kt B G' H2 _ _ b _ gr.s rs2 ec1 fun G3 H3 g3=>?_
   cases b with
   | true=>
    rw [if_pos rfl] at ec ⊢
    obtain ⟨y',ec2,ec⟩:=obE ec
    obtain ⟨us',ec3,ec⟩:=obE ec
    cases ec
    refine ke B G3 H3 _ _ y' _ g3.s (rs2.grow g3) ec2 fun v G4 H4 g4 r4=>?_
    exact ⟨xs.length - (n + 1),by omega,G4,ws++[y'],us',rfl,hlt,(gr.trans g3).trans g4,s1.trans (g3.g.trans g4.g),(rl.mono (g3.g.trans g4.g)).snoc r4,by simp,ec3⟩
   | false=>
    rw [if_neg Bool.false_ne_true] at ec ⊢
    exact ⟨xs.length - (n + 1),by omega,G3,ws,us,rfl,hlt,gr.trans g3,s1.trans g3.g,rl.mono g3.g,rfl,ec⟩
  ·left
   have hnn : n = xs.length:=by omega
   subst hnn
   rw [List.drop_of_length_le (Nat.le_refl _)] at ec
   cases ec
   refine ⟨wk.stop G' H' s1 gr.s,fun p hp=>?_⟩
   rw [List.append_nil] at k
   exact k p ys G' H' gr hp True.intro rl
 ·cases e
theorem QQ {N : List Str} {nl i : Nat} {js : List Nat} {scope : Scope} {cl : List (Str × Addr)} {elt iter : Expr} {ifs : List Expr} {x : Str} {px pos : Pos} {it : En->Option (List D)} {c : En->Option Bool} {g : FE}
  (hc : X.calm = true) (ok : CompOk X N nl js scope cl) (hi : PID X (.Name x px) iter it) (hin : i < nl) (hNd : N.Nodup) (hix : N[i]? = some x) (hx : scope.names.lookup x = some .local) (hjs : js.Nodup)
  (ht : ∃ ti,(∀ C s₀ H₀ ex,TB (z9 X N scope cl C s₀ H₀ ex) ifs ti) /\ ∀ (B G H : Hp) (δ : En) (σ : St) (b : Bool) (Q : Bool->Hp->Prop),zW G H->RepS X.K B G H δ σ->c δ = some b->(∀ G' H',Grow G H G' H'->Q b H')->ti σ H Q)
  (he : ∃ te,(∀ C s₀ H₀ ex,PE (z9 X N scope cl C s₀ H₀ ex) elt te) /\ Xj X.K te g)
  (hs : ∀ x,foldedSetIterable iter X.env x = pure x:=by intro _; rfl) :
  PR X (.ListComp elt [⟨.Name x px,iter,ifs,0⟩] scope pos) (yD nl js i it c g):=by
 obtain ⟨wi,pw,kw⟩:=hi
 obtain ⟨ti,pt,kt⟩:=ht
 obtain ⟨te,pe,ke⟩:=he
 refine ⟨_,Ws hc ok pw (vI hin) (fun C s₀ H₀ ex=>qN hNd hix (.inl (lookup_relabel_local hx)) (.inr (lookup_relabel_local hx))) pt pe hs,qe kw kt ke hjs⟩
end
section
variable {X : Cx}
theorem QR : OpR X (binaryOp .Add) (zaH X.K):=by
 intro pins s σ H x y v u Q I rx ry h
 obtain ⟨l,b,xs,zs,rfl,rfl,hH,hB,hz,q⟩:=h
 cases rx
 cases ry
 obtain ⟨its,r,hl,hz1⟩:=I.list hH
 obtain ⟨its2,r2,hl2,hz2⟩:=I.list hB
 obtain ⟨⟨cls,dd,data,sl⟩,ho,hc,n,hd⟩:=hl.isList
 obtain ⟨⟨cls2,dd2,data2,sl2⟩,ho2,hc2,n2,hd2⟩:=hl2.isList
 simp only at hc hd hc2 hd2
 subst hc hd hc2 hd2
 have ea : its.toArray++its2.toArray = (its++its2).toArray:=by simp
 have h1:=r.length
 have h2:=r2.length
 refine concat_meets ⟨_,ho,rfl⟩ ⟨_,ho2,rfl⟩ noFill_list_add seq_list_add PySem.F.slot_list_add PySem.F.entry_list_add (PySem.F.args_list_add_2 _ _) (list_addW l b its.toArray its2.toArray n n2 dd dd2 sl sl2 (by simp; omega)) ⟨ho,ho2,?_⟩
 rw [ea]
 exact ⟨.ref _,_,I.lnew (t':=s.toks) (r.append r2) (by rw [List.length_append]; omega),rfl,q _ I.fresh⟩
def zaL (K : PySem.W.Frag) : R2:=fun x y H Q=>∃ a b ys,x = .ref a /\ y = .ref b /\ SqT K H a [] /\ SqT K H b ys /\ Q (.ref b) H
theorem Uz : OpR X (binaryOp .Add) (zaL X.K):=by
 intro pins s σ H x y v u Q I rx ry h
 obtain ⟨a,b,ys,rfl,rfl,ha,hb,q⟩:=h
 cases rx
 cases ry
 obtain ⟨its,r1,p1,_⟩:=I.tuple ha
 obtain ⟨its2,r2,p2,_⟩:=I.tuple hb
 cases r1
 obtain ⟨⟨cls,dd,data,sl⟩,ho,hc,n,hd⟩:=id p1
 obtain ⟨⟨cls2,dd2,data2,sl2⟩,ho2,hc2,n2,hd2⟩:=id p2
 simp only at hc hd hc2 hd2
 subst hc hd hc2 hd2
 exact concat_meets ⟨_,ho,rfl⟩ ⟨_,ho2,rfl⟩ noFill_tuple_add seq_tuple_add PySem.F.slot_tuple_add PySem.F.entry_tuple_add (PySem.F.args_tuple_add_2 _ _)
   (tuple_addW0 a b #[] its2.toArray n n2 dd dd2 sl sl2 rfl) ⟨ho,ho2,⟨.ref b,H,I,rfl,q⟩⟩
def tupAdd : D->D->Option D | .tup i,.tup j=>if i.length + j.length <= sizeLine then some (.tup (i++j)) else none | _,_=>none
theorem QS : OpD X (binaryOp .Add) tupAdd:=by
 refine ⟨_,Uz.or QC,fun G H x y v u d Q sG rx ry e k=>?_⟩
 unfold tupAdd at e
 split at e
 ·rename_i i j
  split at e
  ·rename_i hc
   cases e
   have rx:=rx.tup
   have ry:=ry.tup
   have rx0:=rx
   have ry0:=ry
   simp only [Rep] at rx ry
   obtain ⟨p1,xs,rfl,q1,r1⟩:=rx
   obtain ⟨p2,ys,rfl,q2,r2⟩:=ry
   cases i with
   | nil=>
    have : xs = []:=by simpa only [RepL] using r1
    subst this
    exact .inl ⟨p1,p2,ys,rfl,rfl,sG.sqT q1,sG.sqT q2,k _ G H (Grow.refl sG) (by simpa using ry0)⟩
   | cons i0 is=>
    refine .inr ⟨p1,p2,xs,ys,rfl,rfl,sG.sqT q1,sG.sqT q2,?_,by rw [<- r1.length,<- r2.length]; exact hc,fun hy=>?_,fun hy p hp=>k _ _ _ (Grow.laid sG _ hp) (vJ (sG.free hp) (r1.append r2))⟩
    ·intro z
     have:=r1.length
     rw [z] at this
     cases this
    ·have : j = []:=by
      have:=r2.length
      rw [hy] at this
      exact List.length_eq_zero_iff.mp this
     subst this
     exact k _ G H (Grow.refl sG) (by simpa using rx0)
  ·cases e
 ·cases e
def addD (x y : D) : Option D:=(iAdd x y).or ((sAdd x y).or ((tupAdd x y).or (lAdd x y)))
theorem zS : OpD X (binaryOp .Add) addD:=QM.or (QO.or (QS.or (QP QR)))
def isB : D->D->Option D | .bl i,.bl j=>some (.bl (i == j)) | _,_=>none
def zdC : List V->List V->Bool
 | [],[]=>true
 | x::xs,y::ys=>eqV x y && zdC xs ys
 | _,_=>false
theorem WI (hc : X.calm = true) : xp X (.builtin "all") (fun xs H Q=>∃ (a : Addr) (bs : List Bool),xs = [.ref a] /\ SqL X.K H a (bs.map V.bl) /\ Q (.bl (bs.all id)) H):=by
 intro pins s σ H xs us Q I r h
 obtain ⟨a,bs,rfl,hq,q⟩:=h
 obtain ⟨u,rfl,rx⟩:=uA r
 cases rx
 obtain ⟨its,rv,pl,hz⟩:=I.list hq
 have hne : a ≠ s.heap.objs.size:=by
  obtain ⟨o,n,e,_⟩:=pl
  exact Nat.ne_of_lt (Heap.lt_size e)
 have hlen : bs.length = its.length:=by have:=rv.length; simpa using this
 refine call_all_walk (wpAny_pyIter_list pl.isList ⟨s.heap.objs.size,[s.heap.objs.size,a],[s.heap.objs.size],its.toArray.size,fun i v=>its.toArray[i]? = some v,_,fun i=>bs.getD i false,rfl,
  Walks.list (A:=X.A.in1) (I.ok.hd hc) s.heap.objs.size a hne its.toArray,⟨⟨_,Heap.get?_push_size _ rfl,rfl,rfl⟩,?_⟩,?_,fun h' tk kk=>?_⟩)
 ·obtain ⟨o,ho,c,n,d⟩:=pl.isList
  exact ⟨o,Heap.get?_push_of_some _ ho,c,n,d⟩
 ·intro i v s' Q' E' hv hQ
  have hv' : its[i]? = some v:=by simpa using hv
  have hi : i < bs.length:=by rw [hlen]; exact (List.getElem?_eq_some_iff.mp hv').1
  have eb : (bs.map V.bl)[i]? = some (V.bl bs[i]):=by simp [hi]
  obtain ⟨w',k1,k2⟩:=rv.get eb
  rw [hv'] at k1
  cases k1
  cases (show v = Value.bool bs[i] from k2)
  have : bs.getD i false = bs[i]:=by simp [hi]
  have hQ : Q' (bs.getD i false) s':=hQ
  rw [this] at hQ
  exact wpAny_truthy_bool hQ
 ·refine ⟨.bl _,H,I.kept (t':=tk) (fun b o e=>kk b o (by simpa using Nat.ne_of_lt (Heap.lt_size e)) (Heap.get?_push_of_some _ e)),rfl,?_⟩
  have e : (List.range its.toArray.size).all (fun i=>bs.getD i false) = bs.all id:=by
   rw [List.size_toArray,<- hlen]
   clear q hlen hz pl rv hq
   induction bs with
   | nil=>rfl
   | cons b bs ih=>rw [List.length_cons,List.range_succ_eq_map,List.all_cons,List.all_map,List.all_cons,<- ih]; rfl
  rw [e]
  exact q
def ZF : List D->Option (List Bool)
 | []=>some []
 | .bl b::ds=>(ZF ds).map (b::·)
 | _=>none
theorem j5 {K : PySem.W.Frag} {G : Hp} : ∀ {ds : List D} {bs : List Bool} {vs : List V},ZF ds = some bs->RepL K G ds vs->vs = bs.map V.bl
 | [],bs,vs,e,r=>by
  cases e
  simp only [RepL] at r
  exact r
 | .bl b::ds,bs,vs,e,r=>by
  simp only [ZF] at e
  obtain ⟨cs,e1,rfl⟩:=omE e
  simp only [RepL,Rep] at r
  obtain ⟨v,us,rfl,rfl,r2⟩:=r
  rw [j5 e1 r2]
  rfl
 | .non::ds,bs,vs,e,r=>nomatch e
 | .int _::ds,bs,vs,e,r=>nomatch e
 | .str _::ds,bs,vs,e,r=>nomatch e
 | .tup _::ds,bs,vs,e,r=>nomatch e
 | .lst _::ds,bs,vs,e,r=>nomatch e
 | .dic _ _::ds,bs,vs,e,r=>nomatch e
def allD : List D->Option D
 | [.lst ds]=>(ZF ds).map fun bs=>.bl (bs.all id)
 | _=>none
theorem qf (hc : X.calm = true) : uZ X (.builtin "all") allD:=by
 refine ⟨_,WI hc,fun G H ds vs d Q sG r e k=>?_⟩
 unfold allD at e
 split at e
 ·obtain ⟨bs,e1,rfl⟩:=omE e
  obtain ⟨v,rfl,r1⟩:=ym r
  obtain ⟨a,us,rfl,q,rl⟩:=r1.lst sG
  obtain rfl:=j5 e1 rl
  exact ⟨a,bs,rfl,q,k _ G H (Grow.refl sG) (by simp [Rep])⟩
 ·cases e
def tyD : D->String | .non=>"NoneType" | .bl _=>"bool" | .int _=>"int" | .str _=>"str" | .tup _=>"tuple" | .lst _=>"list" | .dic _ _=>"dict" | .obj _ _ _=>""
def TJ : D->Bool | .obj _ _ _=>true | _=>false
theorem UA {pins : List (Addr × Obj)} {σ : St} {G H : Hp} {s : Shared} {A : Around} {E : Value->Shared->Prop} {Q : Value->Shared->Prop} {c : Value} {b : Bool} {d : D} {x : V} {u : Value} (I : Inv X pins σ H s) (sG : zW G H) (r : Rep X.K G d x) (rx : yp x u) (ho : TJ d = false)
  (e : PySem.W.kitOne X.K (.type (tyD d)) c = some b) (h : ∀ tk,Q (.bool b) { s with toks:=tk }) : wpAny (model X.prog X.w) A (call (.builtin "isinstance") [u,c]) Q E s:=by
 cases d with
 | non=>simp only [Rep] at r; subst r; exact wX I rx .non e h
 | bl y=>simp only [Rep] at r; subst r; exact wX I rx (.bl _) e h
 | int i=>simp only [Rep] at r; subst r; exact wX I rx (.int _) e h
 | str y=>simp only [Rep] at r; subst r; exact wX I rx (.str _) e h
 | tup ds=>
  simp only [Rep] at r
  obtain ⟨a,vs,rfl,q,rl⟩:=r
  cases (show u = Value.ref a from rx)
  obtain ⟨its,_,⟨o,h1,h2,_⟩,_⟩:=I.tuple (sG.sqT q)
  exact PySem.W.kia_one PySem.W.kitx_tuple I.kIn ⟨o,h1,h2⟩ e (fun z=>nomatch z) h
 | lst ds=>
  simp only [Rep] at r
  obtain ⟨a,vs,rfl,q,rl⟩:=r
  cases (show u = Value.ref a from rx)
  obtain ⟨its,_,p,_⟩:=I.list (sG.sqL q)
  obtain ⟨o,h1,h2,_⟩:=p.isList
  exact PySem.W.kia_one PySem.W.kitx_list I.kIn ⟨o,h1,h2⟩ e (fun z=>nomatch z) h
 | dic ks ds=>
  simp only [Rep] at r
  obtain ⟨a,vs,rfl,q,hl,nd,rl⟩:=r
  cases (show u = Value.ref a from rx)
  obtain ⟨_,_,us,_,dd⟩:=ZB I.hok (sG.rd q)
  obtain ⟨o,_,_,h1,h2,_⟩:=dd
  exact PySem.W.kia_one PySem.W.kitx_dict I.kIn ⟨o,h1,h2.1⟩ e (fun z=>nomatch z) h
 | obj _ _ _=>cases ho
def TK (T : String) (d : D) : Bool:=tyD d == T || (T == "int" && tyD d == "bool")
def vg (K : PySem.W.Frag) (T : String) : Prop:=∀ d : D,TJ d = false->PySem.W.kitOne K (.type (tyD d)) (.type T) = some (TK T d)
@[simp] def fIs (T : String) (f : FE) : FE:=fun δ=>(f δ).bind fun d=>if TJ d = true then none else some (.bl (TK T d))
theorem xc {e : Expr} {f : FE} {T : Str} {p pT pos : Pos} (T' : String) (hT : vg X.K T') (hm : X.mg "isinstance" = none) (hmT : X.mg T = none) (hv : bootBuiltins T = some (.type T')) (he : PB X e f) (hg : Gl X "isinstance":=by rfl) (hgT : Gl X T:=by rfl) (hn : T ≠ "__name__":=by decide) (hd : (T == ("__debug__" : Str)) = false:=by decide)
  (hs : starEach [e,.Name T pT] X.env = (false,eval e X.env)::starEach [.Name T pT] X.env:=by rfl) (hs2 : starEach [.Name T pT] X.env = (false,eval (.Name T pT) X.env)::starEach [] X.env:=by rfl) (hpl : (backTo pos (starEach [.Name T pT] X.env)).any (·.1) = false:=by rfl)
  (hb : bootBuiltins "isinstance" = some (.builtin "isinstance"):=by decide +kernel) :
  PD X (.Call (.Name "isinstance" p) [e,.Name T pT] [] pos) (fIs T' f):=by
 obtain ⟨t,pt,k1⟩:=he
 have hc : xp X (.builtin "isinstance") (fun xs H Q=>∃ G d v,zW G H /\ Rep X.K G d v /\ TJ d = false /\ xs = [v,.ty T'] /\ Q (.bl (TK T' d)) H):=by
  intro pins s σ H xs us Q I r h
  obtain ⟨G,d,v,sG,rd,ho,rfl,q⟩:=h
  obtain ⟨u,w',rfl,r1,r2⟩:=Qx r
  cases (show w' = Value.type T' from r2)
  exact UA I sG rd r1 ho (hT d ho) fun tk=>⟨.bl _,H,I.tok tk,rfl,q⟩
 refine ⟨_,qP hc hg hm hb (ya pt (ya (Qq (v:=.ty T') hgT hmT hv rfl hn hd) yJ hs2) hs) (by decide) (by decide) hs hpl,fun B G H δ σ d Q sG rs ef k=>?_⟩
 unfold fIs at ef
 obtain ⟨x,e1,ef⟩:=obE ef
 split at ef
 ·cases ef
 ·rename_i ho
  cases ef
  exact k1 B G H δ σ x _ sG rs e1 fun v G1 H1 g1 r1=>⟨H1,x,v,zW.refl _,r1.all g1.s,Bool.eq_false_iff.mpr ho,rfl,k _ G1 H1 g1 (by simp [Rep])⟩
def tOf (K : PySem.W.Frag) (f : FE) : TE:=fun σ H Q=>∃ B G δ d,zW G H /\ RepS K B G H δ σ /\ f δ = some d /\ ∀ v G' H',Grow G H G' H'->Rep K G' d v->Q v H'
theorem PD.canon {e : Expr} {f : FE} (h : PD X e f) : PE X e (tOf X.K f):=by
 obtain ⟨t,pt,k⟩:=h
 intro pins s σ H Q I ⟨B,G,δ,d,sG,rs,ef,q⟩
 exact pt pins s σ H Q I (k B G H δ σ d Q sG rs ef q)
theorem j6 {K : PySem.W.Frag} {f : FE} : Xj K (tOf K f) f:=fun B G H δ σ d Q sG rs e k=>⟨B,G,δ,d,sG,rs,e,k⟩
def zb5 (K : PySem.W.Frag) (f : En->Option Bool) : TT:=fun σ H Q=>∃ B G δ b,zW G H /\ RepS K B G H δ σ /\ f δ = some b /\ ∀ G' H',Grow G H G' H'->Q b H'
theorem ZE.canon {ifs : List Expr} {f : En->Option Bool} (h : ZE X ifs f) : TB X ifs (zb5 X.K f):=by
 obtain ⟨t,pt,k⟩:=h
 intro pins s σ H Q I ⟨B,G,δ,b,sG,rs,ef,q⟩
 exact pt pins s σ H Q I (k B G H δ σ b Q sG rs ef q)
theorem yy {N : List Str} {nl : Nat} {scope : Scope} (hk : scope.kind = .function) (hn : ∀ y ∈ scope.names,y.2 ≠ .free /\ y.2 ≠ .cell) (hl : ∀ y ∈ scope.names,y.2 = .local->scope.names.lookup y.1 = some .local) (hN : N.length = nl) : CompOk X N nl [] scope [] where
 clos:=closureFor_none fun x hx=>(hn x hx).1
 nocell:=fun y hy=>(hn y hy).2
 kind:=hk
 names:=hl
 cells:=fun x c e=>nomatch e
 has:=fun x h=>by
  exfalso
  have key : ∀ k,(relabel scope X.env).names.lookup x = some k->k = .cell \/ k = .free->False:=fun k e hk=>by
   have hm:=PySem.mem_of_lookup e
   unfold relabel at hm
   obtain ⟨⟨n,k0⟩,h1,h2⟩:=List.mem_map.mp hm
   have hf:=hn _ h1
   have hc : (k0 == NameKind.free && X.env.scope.kind == .function && X.env.kindOf n == some .cell) = false:=by
    have : (k0 == NameKind.free) = false:=by simpa using hf.1
    rw [this]; rfl
   dsimp only at h2
   rw [hc] at h2
   have e2 : k0 = k:=congrArg Prod.snd h2
   subst e2
   rcases hk with z | z
   ·exact hf.2 z
   ·exact hf.1 z
  rcases h with h | h
  ·exact key _ h (.inl rfl)
  ·exact key _ h (.inr rfl)
 len:=by simpa using hN
 free:=fun k j x e=>by simp at e
theorem z6 {N : List Str} {nl i : Nat} {js : List Nat} {scope : Scope} {cl : List (Str × Addr)} {elt iter : Expr} {ifs : List Expr} {x : Str} {px pos : Pos} {it : En->Option (List D)} {c : En->Option Bool} {g : FE}
  (hc : X.calm = true) (ok : CompOk X N nl js scope cl) (hi : PID X (.Name x px) iter it) (hin : i < nl) (hNd : N.Nodup) (hix : N[i]? = some x) (hx : scope.names.lookup x = some .local)
  (hjs : js.Nodup) (ht : ∀ C s₀ H₀ ex,ZE (z9 X N scope cl C s₀ H₀ ex) ifs c) (he : ∀ C s₀ H₀ ex,PD (z9 X N scope cl C s₀ H₀ ex) elt g)
  (hs : ∀ x,foldedSetIterable iter X.env x = pure x:=by intro _; rfl) :
  PR X (.ListComp elt [⟨.Name x px,iter,ifs,0⟩] scope pos) (yD nl js i it c g):=
 QQ hc ok hi hin hNd hix hx hjs ⟨zb5 X.K c,fun C s₀ H₀ ex=>(ht C s₀ H₀ ex).canon,fun B G H δ σ b Q sG rs e k=>⟨B,G,δ,b,sG,rs,e,k⟩⟩ ⟨tOf X.K g,fun C s₀ H₀ ex=>(he C s₀ H₀ ex).canon,j6⟩ hs
end
section
variable {P : Program} {w : World} {K : PySem.W.Frag} {mg : Str->Option Value} {base : Heap}
def startD (N : List Str) (ds : List D) : En:=ds.map (fun d=>some (.sh d))++List.replicate (N.length - ds.length) none
theorem qg {N : List Str} {G H : Hp} {ds : List D} {vs : List V} (r : RepL K G ds vs) : RepS K H G H (startD N ds) (vH N vs):=by
 have hl:=r.length
 refine ⟨by simp [startD,vH,hl],fun i x e=>?_,fun i j x y _ _ _ e=>?_⟩
 ·unfold startD at e
  unfold vH
  by_cases hi : i < ds.length
  ·rw [List.getElem?_append_left (by simpa using hi),List.getElem?_map] at e
   obtain ⟨d,e1,e2⟩:=omE e
   cases e2
   obtain ⟨v,h1,h2⟩:=r.get e1
   exact ⟨v,by rw [List.getElem?_append_left (by simp; omega),List.getElem?_map,h1]; rfl,h2⟩
  ·rw [List.getElem?_append_right (by simpa using hi),List.getElem?_replicate] at e
   split at e <;> cases e
 ·exfalso
  unfold startD at e
  by_cases hi : i < ds.length
  ·rw [List.getElem?_append_left (by simpa using hi),List.getElem?_map] at e
   obtain ⟨d,e1,e2⟩:=omE e
   cases e2
  ·rw [List.getElem?_append_right (by simpa using hi),List.getElem?_replicate] at e
   split at e <;> cases e
def yN (N : List Str) (n : Nat) (fb : FS) : List D->Option Rs:=fun ds=>if ds.length = n then (match fb (startD N ds) with | some (.rt d _)=>some d | some (.nx _)=>some (.sh .non) | _=>none) else none
def zZ (K : PySem.W.Frag) (mg : Str->Option Value) (x : Str) (st : Stmt) : Prop:=∃ f fd,Fun K x x st f fd /\ mg x = some (.ref f)
theorem zv {h : Heap} {x : Str} {st : Stmt} {f : Addr} {oc : Value} {od an : Option Addr} {osl : Array (Option Value)} {kV doc pm cdv ct : Value} (X : K.In h) (G : h.Ns mainGlobals mg) (a : PySem.W.nsIn K mainGlobals x = some (some (.ref f)))
  (l : K.lookup f = some ⟨oc,od,.func (PySem.W.fnOf x x (xl st) (yB st) (zk st) .none kV doc pm an cdv ct),osl⟩) (c : PySem.W.codeIn K cdv x = true) (k : PySem.W.keepIn K (.ref f) = true) : zZ K mg x st:=
 ⟨f,_,zaC l c k,PySem.W.mg_of X G a⟩
def wd (K : PySem.W.Frag) (mg : Str->Option Value) (x : Str) (d : D) : Prop:=∃ v u,mg x = some u /\ yp v u /\ ∀ G,Rep K G d v
theorem wd.pd {X : Cx} {x : Str} {d : D} {pos : Pos} (h : wd X.K X.mg x d) (hg : Gl X x:=by rfl) (hd : (x == ("__debug__" : Str)) = false:=by decide) : PD X (.Name x pos) (fC d):=by
 obtain ⟨v,u,hm,r,rep⟩:=h
 exact QJ hg hm r rep hd
abbrev cxD (P : Program) (w : World) (K : PySem.W.Frag) (mg : Str->Option Value) (base : Heap) (N : List Str) (x : Str) (scope : Scope) (f : Addr) (cdv : Value) (A : Around) (outer : List Env) (s : Shared) (H : Hp) (E : XK) : Cx:=
 (Qz CX0 P w K mg base N x scope f cdv A outer s H E).nox
theorem YB {x : Str} {st : Stmt} {N ps : List Str} {k : Nat} {fb : FS} {f : Addr} {fd : FuncData} (F : Fun K x x st f fd) (S : FnScope N ps (zk st))
  (hbody : ∀ (f : Addr) (cdv : Value) (A : Around) (outer : List Env) (s : Shared) (H : Hp) (E : XK),Room k (A.deeper (envOfC x (zk st) s.heap.objs.size f cdv))->WB (cxD P w K mg base N x (zk st) f cdv A outer s H E) (yB st) fb) :
  FnOk P w K mg base CX0 (k + 1) f fd ps (spD K (yN N ps.length fb)):=by
 refine F.ok S (fun vs H Q E h=>?_) (fun cdv A outer s H vs Q E hr h=>?_)
 ·obtain ⟨G,ds,d,sG,r,e,_⟩:=h
  rw [<- r.length]
  unfold yN at e
  split at e
  ·rename_i hl; exact hl
  ·cases e
 ·obtain ⟨G,ds,d,sG,r,e,q⟩:=h
  obtain ⟨t,pt,kt⟩:=hbody f cdv A outer s H E hr
  refine ⟨t,pt,?_⟩
  have gr : ∀ {G' H' : Hp},Stp H G G' H'->Grow G H G' H':=fun a=>⟨a.g,a.b,a.s,a.n⟩
  unfold yN at e
  split at e
  ·split at e
   ·rename_i eb
    cases e
    refine kt H G H _ _ _ _ sG (zW.refl _) (qg r) eb ?_
    cases d with
    | sh d=>exact fun v _ G' H' a _ rv=>q v G' H' (gr a) rv
    | fr m=>exact fun p vs _ G' H' a _=>q p vs G' H' (gr a)
   ·rename_i eb
    cases e
    exact kt H G H _ _ _ _ sG (zW.refl _) (qg r) eb fun σ' G' H' a rv=>q _ G' H' (gr a) (by simp [Rep])
   ·cases e
  ·cases e
theorem zG {x : Str} {st : Stmt} {N ps : List Str} {k : Nat} {fb : FS} (F : zZ K mg x st) (S : FnScope N ps (zk st))
  (hb : ∀ (kV doc pm : Value) (an : Option Addr) (cdv ct : Value) (us : List Value),us.length = ps.length->bindArgs (PySem.W.fnOf x x (xl st) (yB st) (zk st) .none kV doc pm an cdv ct) ⟨us,[]⟩ = pure (ps.zip us))
  (hbody : ∀ (f : Addr) (cdv : Value) (A : Around) (outer : List Env) (s : Shared) (H : Hp) (E : XK),Room k (A.deeper (envOfC x (zk st) s.heap.objs.size f cdv))->WB (cxD P w K mg base N x (zk st) f cdv A outer s H E) (yB st) fb) :
  zx P w K mg base (k + 1) x ps (yN N ps.length fb):=by
 obtain ⟨f,fd,F,hm⟩:=F
 exact ⟨f,fd,YB F S hbody,F.binds hb,F.kp,hm⟩
theorem zaM {l : PySem.W.OpenLaw} {w : World} {K : PySem.W.Frag} {mg : Str->Option Value} {fa : Addr} {st : Stmt} {k : Nat} {x : Str} {M : List D->Option Rs} (hfa : mg "law" = some (.ref fa)) (F : zZ K mg "law" st)
  (hb : ∀ (kV doc pm : Value) (an : Option Addr) (cdv ct : Value) (u : Value),bindArgs (PySem.W.fnOf "law" "law" (xl st) (yB st) (zk st) .none kV doc pm an cdv ct) ⟨[u],[]⟩ = pure [(x,u)])
  (ok : ∀ (f : Addr) (fd : FuncData) (base : Heap),Fun K "law" "law" st f fd->FnOk l.prog w K mg base CX0 k f fd [x] (spD K M)) :
  ∃ fd : FuncData,(∀ (s : Shared) (v : Value),BindsTo s fd ⟨[v],[]⟩ [(x,v)]) /\ ∀ base : Heap,K.In base->base.Ns mainGlobals mg->FnOk l.prog w K mg base CX0 k fa fd [x] (spD K M):=by
 obtain ⟨f,fd,F,hm⟩:=F
 rw [hfa] at hm
 cases hm
 refine ⟨fd,fun s v=>?_,fun base _ _=>ok _ _ base F⟩
 obtain ⟨oc,od,kV,doc,pm,an,cdv,ct,osl,rfl,lk,hcd⟩:=F.ex
 exact .of_eq (hb kV doc pm an cdv ct v)
theorem j7 {K : PySem.W.Frag} {H : Hp} : ∀ (ns : List Int),RepL K H (ns.map D.int) (ns.map V.int)
 | []=>by simp [RepL]
 | n::ns=>by
  simp only [List.map_cons,RepL]
  exact ⟨_,_,rfl,by simp [Rep],j7 ns⟩
theorem zaN {K : PySem.W.Frag} {H : Hp} {a : Addr} {ns : List Int} {M : List D->Option Rs} (h : SqL K H a (ns.map V.int)) (e : M [.lst (ns.map D.int)] = some (.sh (.bl true))) : spD K M [.ref a] H (fun v _=>v = .bl true) fun _ _ _=>False:=by
 refine ⟨H,[.lst (ns.map D.int)],.sh (.bl true),zW.refl _,?_,e,fun v G' H' g r=>by simpa only [Rep] using r⟩
 simp only [RepL,Rep]
 exact ⟨_,_,rfl,⟨a,_,rfl,h,j7 ns⟩,rfl⟩
theorem y7 {h : Heap} {x : Str} {i : Int} {t : Tok} (X : K.In h) (G : h.Ns mainGlobals mg) (a : PySem.W.nsIn K mainGlobals x = some (some (.int i t))) : wd K mg x (.int i):=
 ⟨.int i,_,PySem.W.mg_of X G a,⟨t,rfl⟩,fun _=>by simp [Rep]⟩
theorem wf {K : PySem.W.Frag} {H : Hp} : ∀ (ns : List Str),RepL K H (ns.map D.str) (ns.map V.str)
 | []=>by simp [RepL]
 | n::ns=>by
  simp only [List.map_cons,RepL]
  exact ⟨_,_,rfl,by simp [Rep],wf ns⟩
theorem ZG {h : Heap} {x : Str} {a : Addr} {its : Array Value} {n : Nat} {dd : Option Addr} {sl : Array (Option Value)} {ws : List Str} (X : K.In h) (G : h.Ns mainGlobals mg) (e : PySem.W.nsIn K mainGlobals x = some (some (.ref a)))
  (l : K.lookup a = some ⟨.type "tuple",dd,.seq its n,sl⟩) (hs : its.size <= sizeLine) (v : yn (ws.map V.str) its.toList) : wd K mg x (.tup (ws.map D.str)):=by
 refine ⟨.ref a,_,PySem.W.mg_of X G e,rfl,fun G=>?_⟩
 simp only [Rep]
 exact ⟨a,_,rfl,.inr ⟨_,its,n,l,rfl,rfl,hs,v⟩,wf ws⟩
theorem UB {K : PySem.W.Frag} : vg K "int":=fun d ho=>by cases d <;> first | rfl | cases ho
theorem WJ {K : PySem.W.Frag} : vg K "bool":=fun d ho=>by cases d <;> first | rfl | cases ho
theorem UC {K : PySem.W.Frag} : vg K "str":=fun d ho=>by cases d <;> first | rfl | cases ho
theorem Xo {K : PySem.W.Frag} : vg K "tuple":=fun d ho=>by cases d <;> first | rfl | cases ho
end
section
variable {X : Cx}
def leD (x y : D) : Option D:=(zb3 (fun i j=>decide (i <= j)) x y).or (sLe x y)
theorem xf : OpD X (compareOp .LtE) leD:=zcx.or zaI
def gtD : D->D->Option D:=zb3 fun i j=>decide (j < i)
def mulD : D->D->Option D:=iMul
theorem yS : OpD X (binaryOp .Mult) mulD:=QN
theorem zaO {tg l : Expr} {tl : TE} (hl : PE X l tl) : PI X tg l (fun σ H R=>tl σ H fun x H1=>(∃ a,x = .ref a /\ (∃ xs,SqL X.K H1 a xs) /\ R (Itl X.K a) H1) \/ (∃ a,x = .ref a /\ (∃ xs,SqT X.K H1 a xs) /\ R (Itt X.K a) H1) \/ (∃ z,x = .str z /\ R (Its z) H1)):=by
 intro pins s σ H R I h
 -- the value first,then the walk by its kind
 refine thn (hl pins s σ H _ I h) fun v s1 ⟨x,H1,I1,r1,q1⟩=>?_
 have lift : ∀ {wi : (It->Hp->Prop)->Prop},True:=fun {_}=>trivial
 rcases q1 with ⟨a,e,⟨xs,hq⟩,q⟩ | ⟨a,e,⟨xs,hq⟩,q⟩ | ⟨z,e,q⟩
 ·subst e
  cases r1
  obtain ⟨its,rv,p,hz⟩:=I1.list hq
  refine wpAny_pyIter_list p.isList ?_
  refine ⟨s1.heap.objs.size,[s1.heap.objs.size],_,_,H1,rfl,I1.kept (t':=s1.toks) fun b o e=>Heap.get?_push_of_some _ e,X1 a _,⟨_,Heap.get?_push_size _ rfl,rfl,rfl⟩,fun b hb=>?_,q⟩
  have e : b = s1.heap.objs.size:=by simpa using hb
  subst e
  exact I1.fpOk (Nat.le_refl _) (I1.hok.fresh (Nat.le_refl _))
 ·subst e
  cases r1
  obtain ⟨its,rv,p,hz⟩:=I1.tuple hq
  refine wpAny_pyIter_tuple (show s1.heap.IsTuple a its.toArray from p) ?_
  refine ⟨s1.heap.objs.size,[s1.heap.objs.size],_,_,H1,rfl,I1.kept (t':=s1.toks) fun b o e=>Heap.get?_push_of_some _ e,Xc a _,⟨_,Heap.get?_push_size _ rfl,rfl,rfl⟩,fun b hb=>?_,q⟩
  have e : b = s1.heap.objs.size:=by simpa using hb
  subst e
  exact I1.fpOk (Nat.le_refl _) (I1.hok.fresh (Nat.le_refl _))
 ·subst e
  obtain ⟨t,rfl⟩:=r1
  have fin : ∀ (T : String) (o : Obj),Turn X.prog X.w X.K tg (Its z) [s1.heap.objs.size] s1.heap.objs.size (fun i h=>h.IsStrIter s1.heap.objs.size T z t i)->
    (s1.heap.push o).IsStrIter s1.heap.objs.size T z t 0->PIE X pins σ tg R (.ref s1.heap.objs.size) { s1 with heap:=s1.heap.push o }:=fun T o TT st=>by
   refine ⟨s1.heap.objs.size,[s1.heap.objs.size],_,_,H1,rfl,I1.kept (t':=s1.toks) fun b o e=>Heap.get?_push_of_some _ e,TT,st,fun b hb=>?_,q⟩
   have e : b = s1.heap.objs.size:=by simpa using hb
   subst e
   exact I1.fpOk (Nat.le_refl _) (I1.hok.fresh (Nat.le_refl _))
  cases ha : z.cps.all (· < 128)
  ·exact wpAny_pyIter_wide ha (fin "str_iterator" _ (Yq _ _ z t (fun A hA=>Walks.strWide hA _ z t) fun A i s Q E st h=>wpAny_pyIter_striter_wide st h) ⟨_,Heap.get?_push_size _ rfl,rfl,rfl⟩)
  ·exact wpAny_pyIter_ascii ha (fin "str_ascii_iterator" _ (Yq _ _ z t (fun A hA=>Walks.strAscii hA _ z t) fun A i s Q E st h=>wpAny_pyIter_striter_ascii st h) ⟨_,Heap.get?_push_size _ rfl,rfl,rfl⟩)
@[simp] def v3 (f : FE) : En->Option (List D):=fun δ=>match f δ with | some (.lst ds)=>some ds | some (.tup ds)=>some ds | some (.str z)=>some (signs z) | _=>none
theorem yk {tg e : Expr} {f : FE} (he : PD X e f) : PID X tg e (v3 f):=by
 obtain ⟨t,pt,k⟩:=he
 refine ⟨_,zaO pt,fun B G H δ σ xs R sG rs e q=>?_⟩
 unfold v3 at e
 split at e
 ·rename_i ds e1
  cases e
  refine k B G H δ σ _ _ sG rs e1 fun v G1 H1 g1 r1=>.inl ?_
  simp only [Rep] at r1
  obtain ⟨a,vs,rfl,hq,rl⟩:=r1
  refine ⟨a,rfl,⟨vs,g1.s.sqL hq⟩,q _ G1 H1 g1 ⟨fun i d G' H' ed a1 b1=>?_,fun G' H' a1 b1=>⟨vs,(a1.trans b1).sqL hq,by rw [rl.length]; exact Nat.le_refl _⟩⟩⟩
  obtain ⟨x,ex,rx⟩:=rl.get ed
  refine ⟨⟨vs,x,(a1.trans b1).sqL hq,ex⟩,fun x' H2 y=>⟨y.1,?_⟩⟩
  have:=y.2 vs ((a1.trans b1).sqL hq)
  rw [ex] at this
  cases this
  exact rx.mono a1
 ·rename_i ds e1
  cases e
  refine k B G H δ σ _ _ sG rs e1 fun v G1 H1 g1 r1=>.inr (.inl ?_)
  simp only [Rep] at r1
  obtain ⟨a,vs,rfl,hq,rl⟩:=r1
  refine ⟨a,rfl,⟨vs,g1.s.sqT hq⟩,q _ G1 H1 g1 ⟨fun i d G' H' ed a1 b1=>?_,fun G' H' a1 b1=>⟨vs,(a1.trans b1).sqT hq,by rw [rl.length]; exact Nat.le_refl _⟩⟩⟩
  obtain ⟨x,ex,rx⟩:=rl.get ed
  refine ⟨⟨vs,x,(a1.trans b1).sqT hq,ex⟩,fun x' H2 y=>⟨y.1,?_⟩⟩
  have:=y.2 vs ((a1.trans b1).sqT hq)
  rw [ex] at this
  cases this
  exact rx.mono a1
 ·rename_i z e1
  cases e
  refine k B G H δ σ _ _ sG rs e1 fun v G1 H1 g1 r1=>.inr (.inr ?_)
  simp only [Rep] at r1
  refine ⟨z,r1,q _ G1 H1 g1 ⟨fun i d G' H' ed a1 b1=>?_,fun G' H' a1 b1=>?_⟩⟩
  ·unfold signs at ed
   rw [List.getElem?_map] at ed
   obtain ⟨c,ec,rfl⟩:=omE ed
   have ec' : z.cps[i]? = some c:=by simpa using ec
   refine ⟨?_,fun x' H2 y=>?_⟩
   ·show i < z.cps.size
    obtain ⟨hi,_⟩:=Array.getElem?_eq_some_iff.mp ec'
    exact hi
   ·obtain ⟨y1,c',ec2,rfl⟩:=y
    rw [ec'] at ec2
    cases ec2
    exact ⟨y1,by simp [Rep]⟩
  ·show (signs z).length = z.cps.size
   simp [signs]
 ·cases e
@[simp] def f1 (o : D->Option D) (f : FE) : FE:=fun δ=>(f δ).bind o
def Zt : D->Option D | .int i=>some (.int (-i)) | _=>none
theorem xq {e : Expr} {f : FE} {pos : Pos} (he : PD X e f) : PD X (.UnaryOp .USub e pos) (f1 Zt f):=by
 obtain ⟨t,pt,k1⟩:=he
 refine ⟨_,zcl zas pt,fun B G H δ σ d Q sG rs ef k=>?_⟩
 unfold f1 at ef
 obtain ⟨x,e1,ef⟩:=obE ef
 unfold Zt at ef
 split at ef
 ·cases ef
  exact k1 B G H δ σ _ _ sG rs e1 fun v G1 H1 g1 r1=>⟨_,by simpa only [Rep] using r1,k _ G1 H1 g1 (by simp [Rep])⟩
 ·cases ef
end
mutual
def eqA : D->D->Bool
 | .tup xs,y=>match y with | .tup ys=>eqAs xs ys | _=>false
 | .lst xs,y=>match y with | .lst ys=>eqAs xs ys | _=>false
 | .dic _ _,_=>false
 | .obj _ _ _,_=>false
 | .non,y=>if yW y = true then eqV .non (toV y) else false
 | .bl b,y=>if yW y = true then eqV (.bl b) (toV y) else false
 | .int i,y=>if yW y = true then eqV (.int i) (toV y) else false
 | .str x,y=>if yW y = true then eqV (.str x) (toV y) else false
def eqAs : List D->List D->Bool
 | [],ys=>ys.isEmpty
 | x::xs,ys=>match ys with | []=>false | y::ys=>eqA x y && eqAs xs ys
end
def zB : Nat->D->Bool
 | _,.dic _ _=>false
 | _,.obj _ _ _=>false
 | 0,.tup _=>false
 | 0,.lst _=>false
 | n + 1,.tup xs=>xs.all (zB n)
 | n + 1,.lst xs=>xs.all (zB n)
 | _,_=>true
theorem xE {x y : D} (hx : yW x = true) (hy : yW y = true) : eqA x y = eqV (toV x) (toV y):=by
 cases x with
 | tup _=>cases hx
 | lst _=>cases hx
 | dic _ _=>cases hx
 | obj _ _ _=>cases hx
 | _=>simp only [eqA,hy,if_true,toV]
theorem UD {v : V} (h : uW v = true) : eqV v v = true:=by
 cases v with
 | non=>rfl
 | bl b=>simp [eqV]
 | int b=>simp [eqV]
 | str b=>simp [eqV]
 | _=>cases h
theorem vK : ∀ {xs ys : List D},xs.length ≠ ys.length->eqAs xs ys = false
 | [],[],h=>absurd rfl h
 | [],_::_,_=>by simp [eqAs]
 | _::_,[],_=>by simp [eqAs]
 | x::xs,y::ys,h=>by
  simp only [eqAs]
  rw [vK (fun z=>h (by simp [z])),Bool.and_false]
theorem wx : ∀ {xs ys : List D},xs.length = ys.length->eqAs xs ys = (List.range xs.length).all fun j=>eqA (xs.getD j .non) (ys.getD j .non)
 | [],[],_=>by simp [eqAs]
 | x::xs,y::ys,h=>by
  simp only [eqAs]
  rw [wx (show xs.length = ys.length by simpa using h),List.length_cons,List.range_succ_eq_map,List.all_cons,List.all_map]
  rfl
section
variable {X : Cx} {pins : List (Addr × Obj)} {σ : St} {H : Hp} {s : Shared}
theorem uL (I : Inv X pins σ H s) : ∀ (n : Nat) {x y : D} {v : V},zB n x = true->zB n y = true->Rep X.K H x v->Rep X.K H y v->eqA x y = true:=by
 intro n
 have flatcase : ∀ {x y : D} {v : V},yW x = true->Rep X.K H x v->Rep X.K H y v->eqA x y = true:=fun {x y v} hx rx ry=>by
  have h1:=yZ hx rx
  have hy : yW y = true:=by
   cases y with
   | tup ys=>simp only [Rep] at ry; obtain ⟨a,us,e,_⟩:=ry; exact absurd (h1.1.symm.trans e) (by cases x with | tup _=>cases hx | lst _=>cases hx | dic _ _=>cases hx | obj _ _ _=>cases hx | _=>intro z; cases z)
   | lst ys=>simp only [Rep] at ry; obtain ⟨a,us,e,_⟩:=ry; exact absurd (h1.1.symm.trans e) (by cases x with | tup _=>cases hx | lst _=>cases hx | dic _ _=>cases hx | obj _ _ _=>cases hx | _=>intro z; cases z)
   | dic ks ys=>simp only [Rep] at ry; obtain ⟨a,us,e,_⟩:=ry; exact absurd (h1.1.symm.trans e) (by cases x with | tup _=>cases hx | lst _=>cases hx | dic _ _=>cases hx | obj _ _ _=>cases hx | _=>intro z; cases z)
   | obj c ks ys=>simp only [Rep] at ry; obtain ⟨a,_,_,_,e,_⟩:=ry; exact absurd (h1.1.symm.trans e) (by cases x with | tup _=>cases hx | lst _=>cases hx | dic _ _=>cases hx | obj _ _ _=>cases hx | _=>intro z; cases z)
   | _=>rfl
  have h2:=yZ hy ry
  rw [xE hx hy,<- h1.1,<- h2.1]
  exact UD h1.2
 induction n with
 | zero=>
  intro x y v px py rx ry
  cases x with
  | tup xs=>cases px
  | lst xs=>cases px
  | dic ks xs=>cases px
  | obj _ _ _=>cases px
  | _=>exact flatcase rfl rx ry
 | succ n ih=>
  intro x y v px py rx ry
  have lists : ∀ {xs ys : List D} {vs : List V},xs.all (zB n) = true->ys.all (zB n) = true->RepL X.K H xs vs->RepL X.K H ys vs->eqAs xs ys = true:=by
   intro xs
   induction xs with
   | nil=>
    intro ys vs _ _ r1 r2
    simp only [RepL] at r1
    subst r1
    cases ys with
    | nil=>simp [eqAs]
    | cons y ys=>simp only [RepL] at r2; obtain ⟨_,_,e,_⟩:=r2; cases e
   | cons x xs ih2=>
    intro ys vs p1 p2 r1 r2
    simp only [RepL] at r1
    obtain ⟨v,us,rfl,q1,q2⟩:=r1
    cases ys with
    | nil=>simp only [RepL] at r2; cases r2
    | cons y ys=>
     simp only [RepL] at r2
     obtain ⟨v2,us2,e,q3,q4⟩:=r2
     cases e
     rw [List.all_cons,Bool.and_eq_true] at p1 p2
     simp only [eqAs]
     rw [ih p1.1 p2.1 q1 q3,ih2 p1.2 p2.2 q2 q4]
     rfl
  cases x with
  | tup xs=>
   simp only [Rep] at rx
   obtain ⟨a,vs,rfl,h1,h2⟩:=rx
   cases y with
   | tup ys=>
    simp only [Rep] at ry
    obtain ⟨b,us,e,h3,h4⟩:=ry
    cases e
    obtain rfl:=I.tuple_inj h1 h3
    simp only [eqA]
    exact lists px py h2 h4
   | lst ys=>
    simp only [Rep] at ry
    obtain ⟨b,us,e,h3,h4⟩:=ry
    cases e
    obtain ⟨_,_,p1,_⟩:=I.tuple h1
    obtain ⟨_,_,p2,_⟩:=I.list h3
    obtain ⟨o1,g1,c1,_⟩:=p1
    obtain ⟨o2,g2,c2,_⟩:=p2.isList
    rw [g1] at g2; cases g2; rw [c1] at c2; exact absurd (Value.type.inj c2) (by decide)
   | dic ks ys=>cases py
   | obj _ _ _=>cases py
   | _=>simp only [Rep] at ry; cases ry
  | lst xs=>
   simp only [Rep] at rx
   obtain ⟨a,vs,rfl,h1,h2⟩:=rx
   cases y with
   | lst ys=>
    simp only [Rep] at ry
    obtain ⟨b,us,e,h3,h4⟩:=ry
    cases e
    obtain rfl:=I.list_inj h1 h3
    simp only [eqA]
    exact lists px py h2 h4
   | tup ys=>
    simp only [Rep] at ry
    obtain ⟨b,us,e,h3,h4⟩:=ry
    cases e
    obtain ⟨_,_,p1,_⟩:=I.tuple h3
    obtain ⟨_,_,p2,_⟩:=I.list h1
    obtain ⟨o1,g1,c1,_⟩:=p1
    obtain ⟨o2,g2,c2,_⟩:=p2.isList
    rw [g1] at g2; cases g2; rw [c1] at c2; exact absurd (Value.type.inj c2) (by decide)
   | dic ks ys=>cases py
   | obj _ _ _=>cases py
   | _=>simp only [Rep] at ry; cases ry
  | dic ks xs=>cases px
  | obj _ _ _=>cases px
  | _=>exact flatcase rfl rx ry
theorem z4 (A : Around) : A.in1.units = A.units + 1:=rfl
theorem u9 (I : Inv X pins σ H s) : ∀ (n : Nat) {x y : D} {v v' : V} {u u' : Value} {A : Around},zB n x = true->zB n y = true->Rep X.K H x v->Rep X.K H y v'->yp v u->yp v' u'->A.units + n < cLine->SeqAt.EqAt A s u u' (eqA x y):=by
 intro n
 -- a scalar and anything of no depth
 have ff : ∀ {x y : D} {v v' : V} {u u' : Value} {A : Around},yW x = true->yW y = true->Rep X.K H x v->Rep X.K H y v'->yp v u->yp v' u'->SeqAt.EqAt A s u u' (eqA x y):=fun {x y v v' u u' A} hx hy rx ry r r'=>by
  have h1:=yZ hx rx
  have h2:=yZ hy ry
  rw [xE hx hy,<- h1.1,<- h2.1]
  exact Ty r r' h1.2 h2.2
 induction n with
 | zero=>
  intro x y v v' u u' A px py rx ry r r' hu
  refine ff ?_ ?_ rx ry r r'
  ·cases x <;> first | rfl | cases px
  ·cases y <;> first | rfl | cases py
 | succ n ih=>
  intro x y v v' u u' A px py rx ry r r' hu
  have hu' : A.units < cLine:=by omega
  have items : ∀ {xs ys : List D} {vs us : List V} {its its2 : List Value},xs.all (zB n) = true->ys.all (zB n) = true->RepL X.K H xs vs->RepL X.K H ys us->yn vs its->yn us its2->
    ∀ j (h1 : j < its.toArray.size) (h2 : j < its2.toArray.size),SeqAt.EqAt A.in1 s its.toArray[j] its2.toArray[j] (eqA (xs.getD j .non) (ys.getD j .non)):=fun {xs ys vs us its its2} p1 p2 r1 r2 v1 v2 j h1 h2=>by
   have l1:=r1.length
   have l2:=r2.length
   have l3:=v1.length
   have l4:=v2.length
   have j1 : j < xs.length:=by simp at h1; omega
   have j2 : j < ys.length:=by simp at h2; omega
   have e1 : xs[j]? = some (xs.getD j .non):=by rw [List.getD_eq_getElem?_getD,List.getElem?_eq_getElem j1]; rfl
   have e2 : ys[j]? = some (ys.getD j .non):=by rw [List.getD_eq_getElem?_getD,List.getElem?_eq_getElem j2]; rfl
   obtain ⟨w1,g1,q1⟩:=r1.get e1
   obtain ⟨w2,g2,q2⟩:=r2.get e2
   obtain ⟨u1,k1,k2⟩:=v1.get g1
   obtain ⟨u2,k3,k4⟩:=v2.get g2
   have t1 : its.toArray[j] = u1:=by
    obtain ⟨_,z⟩:=List.getElem?_eq_some_iff.mp k1
    simpa using z
   have t2 : its2.toArray[j] = u2:=by
    obtain ⟨_,z⟩:=List.getElem?_eq_some_iff.mp k3
    simpa using z
   rw [t1,t2]
   exact ih (List.all_eq_true.mp p1 _ (List.mem_of_getElem? e1)) (List.all_eq_true.mp p2 _ (List.mem_of_getElem? e2)) q1 q2 k2 k4 (by rw [z4]; omega)
  have tups : ∀ {xs ys : List D},zB (n + 1) (.tup xs) = true->zB (n + 1) (.tup ys) = true->Rep X.K H (.tup xs) v->Rep X.K H (.tup ys) v'->SeqAt.EqAt A s u u' (eqA (.tup xs) (.tup ys)):=fun {xs ys} px py rx ry=>by
   have rx0:=rx
   have ry0:=ry
   simp only [Rep] at rx ry
   obtain ⟨a,vs,rfl,h1,h2⟩:=rx
   obtain ⟨b,us,rfl,h3,h4⟩:=ry
   cases r
   cases r'
   by_cases hab : a = b
   ·subst hab
    rw [uL I (n + 1) px py rx0 ry0]
    exact SeqAt.EqAt.same _
   ·obtain ⟨its,v1,p1,_⟩:=I.tuple h1
    obtain ⟨its2,v2,p2,_⟩:=I.tuple h3
    have q:=SeqAt.RcAt.tuples (e:=fun j=>eqA (xs.getD j .non) (ys.getD j .non)) p1 p2 hu' (items px py h2 h4 v1 v2)
    have e : ((List.range (min its.toArray.size its2.toArray.size)).all (fun j=>eqA (xs.getD j .non) (ys.getD j .non)) && its.toArray.size == its2.toArray.size) = eqA (.tup xs) (.tup ys):=by
     have l1:=h2.length
     have l2:=h4.length
     have l3:=v1.length
     have l4:=v2.length
     simp only [eqA]
     by_cases hl : xs.length = ys.length
     ·rw [wx hl]
      have : min its.toArray.size its2.toArray.size = xs.length:=by simp; omega
      rw [this]
      have : (its.toArray.size == its2.toArray.size) = true:=by simp; omega
      rw [this,Bool.and_true]
     ·rw [vK hl]
      have : (its.toArray.size == its2.toArray.size) = false:=by simp; omega
      rw [this,Bool.and_false]
    rw [e] at q
    exact SeqAt.EqAt.of_refs hab q
  have lsts : ∀ {xs ys : List D},zB (n + 1) (.lst xs) = true->zB (n + 1) (.lst ys) = true->Rep X.K H (.lst xs) v->Rep X.K H (.lst ys) v'->SeqAt.EqAt A s u u' (eqA (.lst xs) (.lst ys)):=fun {xs ys} px py rx ry=>by
   have rx0:=rx
   have ry0:=ry
   simp only [Rep] at rx ry
   obtain ⟨a,vs,rfl,h1,h2⟩:=rx
   obtain ⟨b,us,rfl,h3,h4⟩:=ry
   cases r
   cases r'
   by_cases hab : a = b
   ·subst hab
    rw [uL I (n + 1) px py rx0 ry0]
    exact SeqAt.EqAt.same _
   ·obtain ⟨its,v1,p1,_⟩:=I.list h1
    obtain ⟨its2,v2,p2,_⟩:=I.list h3
    have l1:=h2.length
    have l2:=h4.length
    have l3:=v1.length
    have l4:=v2.length
    simp only [eqA]
    by_cases hl : xs.length = ys.length
    ·have q:=SeqAt.RcAt.lists (e:=fun j=>eqA (xs.getD j .non) (ys.getD j .non)) p1.isList p2.isList (by simp; omega) hu' (items px py h2 h4 v1 v2)
     rw [wx hl]
     have : its.toArray.size = xs.length:=by simp; omega
     rw [this] at q
     exact SeqAt.EqAt.of_refs hab q
    ·rw [vK hl]
     exact SeqAt.EqAt.of_refs hab (SeqAt.RcAt.lists_lengths p1.isList p2.isList (by simp; omega) hu')
  have tupAt : ∀ {xs : List D} {v : V} {u : Value},Rep X.K H (.tup xs) v->yp v u->∃ a its,u = .ref a /\ s.heap.IsTuple a its:=fun {xs v u} h r=>by
   simp only [Rep] at h
   obtain ⟨a,vs,rfl,h1,h2⟩:=h
   cases r
   obtain ⟨its,_,p,_⟩:=I.tuple h1
   exact ⟨a,_,rfl,p⟩
  have lstAt : ∀ {xs : List D} {v : V} {u : Value},Rep X.K H (.lst xs) v->yp v u->∃ a its,u = .ref a /\ s.heap.IsList a its:=fun {xs v u} h r=>by
   simp only [Rep] at h
   obtain ⟨a,vs,rfl,h1,h2⟩:=h
   cases r
   obtain ⟨its,_,p,_⟩:=I.list h1
   exact ⟨a,_,rfl,p.isList⟩
  cases x with
  | dic ks xs=>cases px
  | obj _ _ _=>cases px
  | tup xs=>
   cases y with
   | dic ks ys=>cases py
   | obj _ _ _=>cases py
   | tup ys=>exact tups px py rx ry
   | lst ys=>
    obtain ⟨a,i1,rfl,t1⟩:=tupAt rx r
    obtain ⟨b,i2,rfl,t2⟩:=lstAt ry r'
    exact SeqAt.EqAt.tuple_list t1 t2 hu'
   | non=>obtain ⟨a,i1,rfl,t1⟩:=tupAt rx r; simp only [Rep] at ry; subst ry; cases r'; exact SeqAt.EqAt.tuple_none t1 hu'
   | bl b=>obtain ⟨a,i1,rfl,t1⟩:=tupAt rx r; simp only [Rep] at ry; subst ry; cases r'; exact SeqAt.EqAt.tuple_bool b t1 hu'
   | int b=>obtain ⟨a,i1,rfl,t1⟩:=tupAt rx r; simp only [Rep] at ry; subst ry; obtain ⟨t,rfl⟩:=r'; exact SeqAt.EqAt.tuple_int b t t1 hu'
   | str b=>obtain ⟨a,i1,rfl,t1⟩:=tupAt rx r; simp only [Rep] at ry; subst ry; obtain ⟨t,rfl⟩:=r'; exact SeqAt.EqAt.tuple_str b t t1 hu'
  | lst xs=>
   cases y with
   | dic ks ys=>cases py
   | obj _ _ _=>cases py
   | lst ys=>exact lsts px py rx ry
   | tup ys=>
    obtain ⟨a,i1,rfl,t1⟩:=lstAt rx r
    obtain ⟨b,i2,rfl,t2⟩:=tupAt ry r'
    exact SeqAt.EqAt.list_tuple t1 t2 hu'
   | non=>obtain ⟨a,i1,rfl,t1⟩:=lstAt rx r; simp only [Rep] at ry; subst ry; cases r'; exact SeqAt.EqAt.list_none t1 hu'
   | bl b=>obtain ⟨a,i1,rfl,t1⟩:=lstAt rx r; simp only [Rep] at ry; subst ry; cases r'; exact SeqAt.EqAt.list_bool b t1 hu'
   | int b=>obtain ⟨a,i1,rfl,t1⟩:=lstAt rx r; simp only [Rep] at ry; subst ry; obtain ⟨t,rfl⟩:=r'; exact SeqAt.EqAt.list_int b t t1 hu'
   | str b=>obtain ⟨a,i1,rfl,t1⟩:=lstAt rx r; simp only [Rep] at ry; subst ry; obtain ⟨t,rfl⟩:=r'; exact SeqAt.EqAt.list_str b t t1 hu'
  | non=>
   cases y with
   | dic ks ys=>cases py
   | obj _ _ _=>cases py
   | tup ys=>obtain ⟨a,i1,rfl,t1⟩:=tupAt ry r'; simp only [Rep] at rx; subst rx; cases r; exact SeqAt.EqAt.none_tuple t1 hu'
   | lst ys=>obtain ⟨a,i1,rfl,t1⟩:=lstAt ry r'; simp only [Rep] at rx; subst rx; cases r; exact SeqAt.EqAt.none_list t1 hu'
   | _=>exact ff rfl rfl rx ry r r'
  | bl b=>
   cases y with
   | dic ks ys=>cases py
   | obj _ _ _=>cases py
   | tup ys=>obtain ⟨a,i1,rfl,t1⟩:=tupAt ry r'; simp only [Rep] at rx; subst rx; cases r; exact SeqAt.EqAt.bool_tuple b t1 hu'
   | lst ys=>obtain ⟨a,i1,rfl,t1⟩:=lstAt ry r'; simp only [Rep] at rx; subst rx; cases r; exact SeqAt.EqAt.bool_list b t1 hu'
   | _=>exact ff rfl rfl rx ry r r'
  | int b=>
   cases y with
   | dic ks ys=>cases py
   | obj _ _ _=>cases py
   | tup ys=>obtain ⟨a,i1,rfl,t1⟩:=tupAt ry r'; simp only [Rep] at rx; subst rx; obtain ⟨t,rfl⟩:=r; exact SeqAt.EqAt.int_tuple b t t1 hu'
   | lst ys=>obtain ⟨a,i1,rfl,t1⟩:=lstAt ry r'; simp only [Rep] at rx; subst rx; obtain ⟨t,rfl⟩:=r; exact SeqAt.EqAt.int_list b t t1 hu'
   | _=>exact ff rfl rfl rx ry r r'
  | str b=>
   cases y with
   | dic ks ys=>cases py
   | obj _ _ _=>cases py
   | tup ys=>obtain ⟨a,i1,rfl,t1⟩:=tupAt ry r'; simp only [Rep] at rx; subst rx; obtain ⟨t,rfl⟩:=r; exact SeqAt.EqAt.str_tuple b t t1 hu'
   | lst ys=>obtain ⟨a,i1,rfl,t1⟩:=lstAt ry r'; simp only [Rep] at rx; subst rx; obtain ⟨t,rfl⟩:=r; exact SeqAt.EqAt.str_list b t t1 hu'
   | _=>exact ff rfl rfl rx ry r r'
end
section
variable {X : Cx} {pins : List (Addr × Obj)} {σ : St} {H : Hp} {s : Shared}
theorem vL (I : Inv X pins σ H s) (n : Nat) {A : Around} (hu : A.units + n < cLine) {xs ys : List D} {vs us : List V} {its its2 : List Value} (p1 : xs.all (zB n) = true) (p2 : ys.all (zB n) = true) (r1 : RepL X.K H xs vs) (r2 : RepL X.K H ys us) (v1 : yn vs its) (v2 : yn us its2) :
  ∀ j (h1 : j < its.toArray.size) (h2 : j < its2.toArray.size),SeqAt.EqAt A s its.toArray[j] its2.toArray[j] (eqA (xs.getD j .non) (ys.getD j .non)):=fun j h1 h2=>by
 have l1:=r1.length
 have l2:=r2.length
 have l3:=v1.length
 have l4:=v2.length
 have j1 : j < xs.length:=by simp at h1; omega
 have j2 : j < ys.length:=by simp at h2; omega
 have e1 : xs[j]? = some (xs.getD j .non):=by rw [List.getD_eq_getElem?_getD,List.getElem?_eq_getElem j1]; rfl
 have e2 : ys[j]? = some (ys.getD j .non):=by rw [List.getD_eq_getElem?_getD,List.getElem?_eq_getElem j2]; rfl
 obtain ⟨w1,g1,q1⟩:=r1.get e1
 obtain ⟨w2,g2,q2⟩:=r2.get e2
 obtain ⟨u1,k1,k2⟩:=v1.get g1
 obtain ⟨u2,k3,k4⟩:=v2.get g2
 have t1 : its.toArray[j] = u1:=by
  obtain ⟨_,z⟩:=List.getElem?_eq_some_iff.mp k1
  simpa using z
 have t2 : its2.toArray[j] = u2:=by
  obtain ⟨_,z⟩:=List.getElem?_eq_some_iff.mp k3
  simpa using z
 rw [t1,t2]
 exact u9 I n (List.all_eq_true.mp p1 _ (List.mem_of_getElem? e1)) (List.all_eq_true.mp p2 _ (List.mem_of_getElem? e2)) q1 q2 k2 k4 hu
theorem WK {xs ys : List D} {its its2 : List Value} (l1 : xs.length = its.length) (l2 : ys.length = its2.length) :
  ((List.range (min its.toArray.size its2.toArray.size)).all (fun j=>eqA (xs.getD j .non) (ys.getD j .non)) && its.toArray.size == its2.toArray.size) = eqAs xs ys:=by
 by_cases hl : xs.length = ys.length
 ·rw [wx hl]
  have : min its.toArray.size its2.toArray.size = xs.length:=by simp; omega
  rw [this]
  have : (its.toArray.size == its2.toArray.size) = true:=by simp; omega
  rw [this,Bool.and_true]
 ·rw [vK hl]
  have : (its.toArray.size == its2.toArray.size) = false:=by simp; omega
  rw [this,Bool.and_false]
end
section
variable {X : Cx}
def zcz (K : PySem.W.Frag) (neg : Bool) : R2:=fun v u H Q=>∃ xs ys,Rep K H (.tup xs) v /\ Rep K H (.tup ys) u /\ xs.all (zB 8) = true /\ ys.all (zB 8) = true /\ Q (.bl (if neg then !eqAs xs ys else eqAs xs ys)) H
def QT (K : PySem.W.Frag) (neg : Bool) : R2:=fun v u H Q=>∃ xs ys,Rep K H (.lst xs) v /\ Rep K H (.lst ys) u /\ xs.all (zB 8) = true /\ ys.all (zB 8) = true /\ Q (.bl (if neg then !eqAs xs ys else eqAs xs ys)) H
theorem zaP (hu : X.A.units + 20 < cLine) : OpR X (compareOp .Eq) (zcz X.K false):=by
 intro pins s σ H x y v u Q I rx ry h
 obtain ⟨xs,ys,r1,r2,p1,p2,q⟩:=h
 simp only [Rep] at r1 r2
 obtain ⟨a,vs,rfl,h1,h2⟩:=r1
 obtain ⟨b,us,rfl,h3,h4⟩:=r2
 cases rx
 cases ry
 obtain ⟨its,v1,t1,_⟩:=I.tuple h1
 obtain ⟨its2,v2,t2,_⟩:=I.tuple h3
 refine SeqAt.eq_tupleAt (e:=fun j=>eqA (xs.getD j .non) (ys.getD j .non)) t1 t2 (by omega) (vL I 8 (by rw [z4]; omega) p1 p2 h2 h4 v1 v2) ?_
 rw [WK (h2.length.trans v1.length) (h4.length.trans v2.length)]
 exact ⟨.bl _,H,I,rfl,q⟩
theorem zaQ (hu : X.A.units + 20 < cLine) : OpR X (compareOp .NotEq) (zcz X.K true):=by
 intro pins s σ H x y v u Q I rx ry h
 obtain ⟨xs,ys,r1,r2,p1,p2,q⟩:=h
 simp only [Rep] at r1 r2
 obtain ⟨a,vs,rfl,h1,h2⟩:=r1
 obtain ⟨b,us,rfl,h3,h4⟩:=r2
 cases rx
 cases ry
 obtain ⟨its,v1,t1,_⟩:=I.tuple h1
 obtain ⟨its2,v2,t2,_⟩:=I.tuple h3
 refine SeqAt.RcNeAt.tuples (e:=fun j=>eqA (xs.getD j .non) (ys.getD j .non)) t1 t2 (by omega) (vL I 8 (by rw [z4]; omega) p1 p2 h2 h4 v1 v2) _ _ _ _ ?_
 rw [WK (h2.length.trans v1.length) (h4.length.trans v2.length)]
 exact ⟨.bl _,H,I,rfl,q⟩
theorem UE (hu : X.A.units + 20 < cLine) : OpR X (compareOp .Eq) (QT X.K false):=by
 intro pins s σ H x y v u Q I rx ry h
 obtain ⟨xs,ys,r1,r2,p1,p2,q⟩:=h
 simp only [Rep] at r1 r2
 obtain ⟨a,vs,rfl,h1,h2⟩:=r1
 obtain ⟨b,us,rfl,h3,h4⟩:=r2
 cases rx
 cases ry
 obtain ⟨its,v1,t1,_⟩:=I.list h1
 obtain ⟨its2,v2,t2,_⟩:=I.list h3
 have l1:=h2.length.trans v1.length
 have l2:=h4.length.trans v2.length
 by_cases hl : xs.length = ys.length
 ·refine SeqAt.eq_listAt (e:=fun j=>eqA (xs.getD j .non) (ys.getD j .non)) t1.isList t2.isList (by simp; omega) (by omega) (vL I 8 (by rw [z4]; omega) p1 p2 h2 h4 v1 v2) ?_
  have e:=wx hl
  have : its.toArray.size = xs.length:=by simp; omega
  rw [this,<- e]
  exact ⟨.bl _,H,I,rfl,q⟩
 ·refine SeqAt.eq_list_lengthsAt t1.isList t2.isList (by simp; omega) (by omega) ⟨.bl _,H,I,rfl,?_⟩
  rw [vK hl] at q
  exact q
theorem UF (hu : X.A.units + 20 < cLine) : OpR X (compareOp .NotEq) (QT X.K true):=by
 intro pins s σ H x y v u Q I rx ry h
 obtain ⟨xs,ys,r1,r2,p1,p2,q⟩:=h
 simp only [Rep] at r1 r2
 obtain ⟨a,vs,rfl,h1,h2⟩:=r1
 obtain ⟨b,us,rfl,h3,h4⟩:=r2
 cases rx
 cases ry
 obtain ⟨its,v1,t1,_⟩:=I.list h1
 obtain ⟨its2,v2,t2,_⟩:=I.list h3
 have l1:=h2.length.trans v1.length
 have l2:=h4.length.trans v2.length
 by_cases hl : xs.length = ys.length
 ·refine SeqAt.RcNeAt.lists (e:=fun j=>eqA (xs.getD j .non) (ys.getD j .non)) t1.isList t2.isList (by simp; omega) (by omega) (vL I 8 (by rw [z4]; omega) p1 p2 h2 h4 v1 v2) _ _ _ _ ?_
  have e:=wx hl
  have : its.toArray.size = xs.length:=by simp; omega
  rw [this,<- e]
  exact ⟨.bl _,H,I,rfl,q⟩
 ·refine SeqAt.RcNeAt.lists_lengths t1.isList t2.isList (by simp; omega) (by omega) _ _ _ _ ⟨.bl _,H,I,rfl,?_⟩
  rw [vK hl] at q
  exact q
def QU (neg : Bool) : D->D->Option D
 | .tup xs,.tup ys=>if xs.all (zB 8) = true /\ ys.all (zB 8) = true then some (.bl (if neg then !eqAs xs ys else eqAs xs ys)) else none
 | .lst xs,.lst ys=>if xs.all (zB 8) = true /\ ys.all (zB 8) = true then some (.bl (if neg then !eqAs xs ys else eqAs xs ys)) else none
 | _,_=>none
theorem YC {f : Value->Value->Sem Value} {neg : Bool} (h1 : OpR X f (zcz X.K neg)) (h2 : OpR X f (QT X.K neg)) : OpD X f (QU neg):=by
 refine ⟨_,h1.or h2,fun G H x y v u d Q sG rx ry e k=>?_⟩
 unfold QU at e
 split at e
 ·split at e
  ·rename_i hc
   cases e
   exact .inl ⟨_,_,rx.all sG,ry.all sG,hc.1,hc.2,k _ G H (Grow.refl sG) (by simp [Rep])⟩
  ·cases e
 ·split at e
  ·rename_i hc
   cases e
   exact .inr ⟨_,_,rx.all sG,ry.all sG,hc.1,hc.2,k _ G H (Grow.refl sG) (by simp [Rep])⟩
  ·cases e
 ·cases e
def ZH (ks : List Key) (xs : List D) (ls : List Key) (ys : List D) : Bool:=xs.length == ys.length && (ks.zip xs).all fun kv=>match qT ls ys kv.1 with | some y=>eqA kv.2 y | none=>false
theorem WL {pins : List (Addr × Obj)} {σ : St} {H : Hp} {s : Shared} (I : Inv X pins σ H s) {A : Around} (hu : A.units + 8 < cLine) {ls : List Key} {ys : List D} {ws : List V} {kb : List (Key × Value)} (hl : ls.length = ys.length) (r2 : RepL X.K H ys ws) (p2 : ys.all (zB 8) = true) (vb : KV (ls.zip ws) kb) :
  ∀ {ks : List Key} {xs : List D} {vs : List V} {ka : List (Key × Value)},ks.length = xs.length->RepL X.K H xs vs->xs.all (zB 8) = true->KV (ks.zip vs) ka->
   PySem.W.KeqHits A s kb ka ((ks.zip xs).all fun kv=>match qT ls ys kv.1 with | some y=>eqA kv.2 y | none=>false):=by
 intro ks
 induction ks with
 | nil=>
  intro xs vs ka _ _ _ va
  simp only [List.zip_nil_left] at va
  cases va
  exact .nil
 | cons k ks ih=>
  intro xs vs ka hl' r1 p1 va
  cases xs with
  | nil=>cases hl'
  | cons x xs=>
   simp only [RepL] at r1
   obtain ⟨v,us,rfl,q1,q2⟩:=r1
   rw [List.all_cons,Bool.and_eq_true] at p1
   simp only [List.zip_cons_cons] at va
   cases va with
   | @cons p q l1 l2 hp ht=>
    obtain ⟨k',u⟩:=q
    obtain ⟨e1,ru⟩:=hp
    have e1 : k = k':=e1
    subst e1
    have ru : yp v u:=ru
    rw [List.zip_cons_cons,List.all_cons]
    dsimp only
    have hv:=w9 k hl r2
    have hw:=vb.val k
    cases ev : qT ls ys k with
    | none=>
     rw [hv.2 ev] at hw
     exact .miss hw.none_of
    | some y=>
     obtain ⟨w',e3,r3⟩:=hv.1 y ev
     rw [e3] at hw
     obtain ⟨u',e4,r4⟩:=hw.some_of
     have py : zB 8 y = true:=by
      refine List.all_eq_true.mp p2 y ?_
      unfold qT at ev
      obtain ⟨kv,hkv,rfl⟩:=omE ev
      exact (List.of_mem_zip (List.mem_of_find?_eq_some hkv)).2
     exact .hit e4 (u9 I 8 p1.1 py q1 r3 ru r4 hu) (ih (by simpa using hl') q2 p1.2 ht)
def QV (K : PySem.W.Frag) (neg : Bool) : R2:=fun v u H Q=>∃ ks xs ls ys,Rep K H (.dic ks xs) v /\ Rep K H (.dic ls ys) u /\ xs.all (zB 8) = true /\ ys.all (zB 8) = true /\ Q (.bl (if neg then !ZH ks xs ls ys else ZH ks xs ls ys)) H
theorem qh {pins : List (Addr × Obj)} {σ : St} {H : Hp} {s : Shared} (I : Inv X pins σ H s) {ks : List Key} {xs : List D} {v : V} (h : Rep X.K H (.dic ks xs) v) : ∃ a vs ka,v = .ref a /\ (a == sysModules) = false /\ s.heap.DictOf (yV X.prog X.w) a ka /\ KV (ks.zip vs) ka /\ ks.length = xs.length /\ RepL X.K H xs vs /\ ka.length = xs.length:=by
 simp only [Rep] at h
 obtain ⟨a,vs,rfl,h1,h2,h3,h4⟩:=h
 obtain ⟨_,h5,ka,h6,h7⟩:=ZB I.hok h1
 refine ⟨a,vs,ka,rfl,h5,h7,h6,h2,h4,?_⟩
 have:=h6.length
 rw [List.length_zip] at this
 have:=h4.length
 omega
theorem QW (hu : X.A.units + 20 < cLine) : OpR X (compareOp .Eq) (QV X.K false):=by
 intro pins s σ H x y v u Q I rx ry h
 obtain ⟨ks,xs,ls,ys,r1,r2,p1,p2,q⟩:=h
 obtain ⟨a,vs,ka,rfl,m1,d1,k1,l1,rl1,n1⟩:=qh I r1
 obtain ⟨b,us,kb,rfl,m2,d2,k2,l2,rl2,n2⟩:=qh I r2
 cases rx
 cases ry
 refine PySem.W.keq_eq m1 m2 d1 d2 (by omega) (fun _=>WL I (by rw [z4]; omega) l2 rl2 p2 k2 l1 rl1 p1 k1) ⟨.bl _,H,I,rfl,?_⟩
 rw [n1,n2]
 exact q
theorem QX (hu : X.A.units + 20 < cLine) : OpR X (compareOp .NotEq) (QV X.K true):=by
 intro pins s σ H x y v u Q I rx ry h
 obtain ⟨ks,xs,ls,ys,r1,r2,p1,p2,q⟩:=h
 obtain ⟨a,vs,ka,rfl,m1,d1,k1,l1,rl1,n1⟩:=qh I r1
 obtain ⟨b,us,kb,rfl,m2,d2,k2,l2,rl2,n2⟩:=qh I r2
 cases rx
 cases ry
 refine PySem.W.keq_ne m1 m2 d1 d2 (by omega) (fun _=>WL I (by rw [z4]; omega) l2 rl2 p2 k2 l1 rl1 p1 k1) ⟨.bl _,H,I,rfl,?_⟩
 rw [n1,n2]
 exact q
def zcA (neg : Bool) : D->D->Option D
 | .dic ks xs,.dic ls ys=>if xs.all (zB 8) = true /\ ys.all (zB 8) = true then some (.bl (if neg then !ZH ks xs ls ys else ZH ks xs ls ys)) else none
 | _,_=>none
theorem WM {f : Value->Value->Sem Value} {neg : Bool} (h1 : OpR X f (QV X.K neg)) : OpD X f (zcA neg):=by
 refine ⟨_,h1,fun G H x y v u d Q sG rx ry e k=>?_⟩
 unfold zcA at e
 split at e
 ·split at e
  ·rename_i hc
   cases e
   exact ⟨_,_,_,_,rx.all sG,ry.all sG,hc.1,hc.2,k _ G H (Grow.refl sG) (by simp [Rep])⟩
  ·cases e
 ·cases e
def eqO (neg : Bool) (x y : D) : Option D:=(sEq neg x y).or ((QU neg x y).or (zcA neg x y))
theorem yE (hu : X.A.units + 20 < cLine) : OpD X (compareOp .Eq) (eqO false):=zaJ.or ((YC (zaP hu) (UE hu)).or (WM (QW hu)))
theorem zaR (hu : X.A.units + 20 < cLine) : OpD X (compareOp .NotEq) (eqO true):=zaK.or ((YC (zaQ hu) (UF hu)).or (WM (QX hu)))
end
section
variable {X : Cx} {e : Expr} {f : FE} {pos : Pos}
end
def tZ (cells : List (Str × Addr)) : List (Str × NameKind)->List (Str × Addr)->List (Str × Addr)
 | [],acc=>acc
 | (n,k)::r,acc=>tZ cells r (if (k == .free) = true then (n,(cells.lookup n).getD 0)::acc else acc)
theorem qX {scope : Scope} {env : Env} (h : ∀ y ∈ scope.names,y.2 = .free->(env.cells.lookup y.1).isSome = true) : closureFor scope env = pure (tZ env.cells scope.names []):=by
 simp only [closureFor]
 have key : ∀ (names : List (Str × NameKind)) (acc : List (Str × Addr)),(∀ y ∈ names,y.2 = .free->(env.cells.lookup y.1).isSome = true)->
   (forIn names acc fun (x : Str × NameKind) (r : List (Str × Addr))=>(if (x.snd == NameKind.free) = true then do
    let c <- cellOf env x.fst
    pure (ForInStep.yield ((x.fst,c)::r)) else pure (ForInStep.yield r) : Sem (ForInStep (List (Str × Addr))))) = pure (tZ env.cells names acc):=by
  intro names
  induction names with
  | nil=>intro acc _; rfl
  | cons x r ih=>
   intro acc hh
   obtain ⟨n,k⟩:=x
   rw [List.forIn_cons]
   cases hk : (k == NameKind.free) with
   | false=>
    simp only [hk,Bool.false_eq_true,if_false,pure_bind,tZ]
    exact ih acc fun y hy=>hh y (List.mem_cons_of_mem _ hy)
   | true=>
    have hs:=hh (n,k) List.mem_cons_self (by simpa using hk)
    obtain ⟨c,ec⟩:=Option.isSome_iff_exists.mp hs
    have ec : env.cells.lookup n = some c:=ec
    have e1 : cellOf env n = pure c:=by unfold cellOf; rw [ec]
    simp only [hk,if_true,e1,pure_bind,tZ,ec,Option.getD_some]
    exact ih _ fun y hy=>hh y (List.mem_cons_of_mem _ hy)
 have:=key scope.names [] h
 first
  | exact this
  | (rw [this]; rfl)
  | (simp only [this,pure_bind])
theorem j8 {cells : List (Str × Addr)} : ∀ (names : List (Str × NameKind)) (acc : List (Str × Addr)) (p : Str × Addr),p ∈ tZ cells names acc->p ∈ acc \/ ((p.1,NameKind.free) ∈ names /\ p.2 = (cells.lookup p.1).getD 0)
 | [],acc,p,h=>.inl h
 | (n,k)::r,acc,p,h=>by
  unfold tZ at h
  rcases j8 r _ p h with h | ⟨h,e⟩
  ·cases hk : (k == NameKind.free) with
   | false=>rw [hk] at h; simp only [Bool.false_eq_true,if_false] at h; exact .inl h
   | true=>
    rw [hk] at h
    simp only [if_true,List.mem_cons] at h
    rcases h with h | h
    ·subst h
     have : k = NameKind.free:=by simpa using hk
     subst this
     exact .inr ⟨List.mem_cons_self,rfl⟩
    ·exact .inl h
  ·exact .inr ⟨List.mem_cons_of_mem _ h,e⟩
theorem j9 {cells : List (Str × Addr)} : ∀ (names : List (Str × NameKind)) (acc : List (Str × Addr)) (x : Str),((x,NameKind.free) ∈ names \/ ∃ c,(x,c) ∈ acc)->∃ c,(x,c) ∈ tZ cells names acc
 | [],acc,x,h=>h.elim (fun z=>by cases z) id
 | (n,k)::r,acc,x,h=>by
  unfold tZ
  refine j9 r _ x ?_
  rcases h with h | ⟨c,h⟩
  ·rcases List.mem_cons.mp h with h | h
   ·cases h
    exact .inr ⟨(cells.lookup n).getD 0,by simp⟩
   ·exact .inl h
  ·refine .inr ⟨c,?_⟩
   split
   ·exact List.mem_cons_of_mem _ h
   ·exact h
theorem qY {l : List (Str × Addr)} {x : Str} {c : Addr} (h : (x,c) ∈ l) : ∃ c',l.lookup x = some c':=by
 induction l with
 | nil=>cases h
 | cons p l ih=>
  obtain ⟨y,d⟩:=p
  rw [List.lookup_cons]
  cases e : x == y with
  | true=>exact ⟨d,rfl⟩
  | false=>
   rcases List.mem_cons.mp h with q | q
   ·cases q; simp at e
   ·exact ih q
theorem tf {X : Cx} {N : List Str} {nl : Nat} {js : List Nat} {scope : Scope} {n0 : Nat} (hce : X.env.cells = cellsFrom n0 X.env.scope.names []) (hk : scope.kind = .function) (hn : ∀ y ∈ scope.names,y.2 ≠ .cell)
  {sn : List (Str × NameKind)} (hsn : X.env.scope.names = sn) (hf : ∀ y ∈ scope.names,y.2 = .free->sn.lookup y.1 = some .cell) (hl : ∀ y ∈ scope.names,y.2 = .local->scope.names.lookup y.1 = some .local) (hN : N.length = nl + js.length)
  (free : ∀ k j x,js[k]? = some j->N[nl + k]? = some x->X.N[j]? = some x /\ (X.env.kindOf x = some .cell \/ X.env.kindOf x = some .free) /\ Vis X.env.scope x /\ ((relabel scope X.env).names.lookup x = some .cell \/ (relabel scope X.env).names.lookup x = some .free)) :
  CompOk X N nl js scope (tZ X.env.cells scope.names []) where
 clos:=qX fun y hy e=>by
  obtain ⟨c,ec⟩:=uI (n:=n0) (by rw [hsn]; exact hf y hy e)
  rw [hce,ec]; rfl
 nocell:=hn
 kind:=hk
 names:=hl
 cells:=fun x c e=>by
  rcases j8 _ _ _ (PySem.mem_of_lookup e) with z | ⟨z,q⟩
  ·cases z
  ·obtain ⟨c',ec⟩:=uI (n:=n0) (by rw [hsn]; exact hf _ z rfl)
   have ec : X.env.cells.lookup x = some c':=by rw [hce]; exact ec
   have q : c = (X.env.cells.lookup x).getD 0:=q
   rw [ec] at q
   rw [ec,q]; rfl
 has:=fun x h=>by
  have key : ∀ k,(relabel scope X.env).names.lookup x = some k->k = .cell \/ k = .free->(x,NameKind.free) ∈ scope.names:=fun k e hk=>by
   have hm:=PySem.mem_of_lookup e
   unfold relabel at hm
   obtain ⟨⟨n,k0⟩,h1,h2⟩:=List.mem_map.mp hm
   dsimp only at h2
   cases hc : (k0 == NameKind.free && X.env.scope.kind == .function && X.env.kindOf n == some .cell) with
   | true=>
    rw [hc] at h2
    simp only [if_true] at h2
    have e2 : n = x:=congrArg Prod.fst h2
    subst e2
    have : k0 = NameKind.free:=by
     rw [Bool.and_eq_true,Bool.and_eq_true] at hc
     simpa using hc.1.1
    rw [<- this]; exact h1
   | false=>
    rw [hc] at h2
    have e2 : k0 = k:=congrArg Prod.snd h2
    have e3 : n = x:=congrArg Prod.fst h2
    subst e2 e3
    rcases hk with z | z
    ·exact absurd z (hn _ h1)
    ·rw [<- z]; exact h1
  have hx : (x,NameKind.free) ∈ scope.names:=by
   rcases h with h | h
   ·exact key _ h (.inl rfl)
   ·exact key _ h (.inr rfl)
  obtain ⟨c,hc⟩:=j9 (cells:=X.env.cells) scope.names [] x (.inl hx)
  exact qY hc
 len:=hN
 free:=free
section
variable {X : Cx}
theorem kf {K : PySem.W.Frag} {G H : Hp} {d e : D} {vs : List V} (r : tX K G H [d,e] vs) : ∃ v u,vs = [v,u] /\ wI K G H d v /\ wI K G H e u:=by
 obtain ⟨v,us,rfl,r1,u,us,rfl,r2,r3⟩:=r
 simp only [tX] at r3
 subst r3
 exact ⟨v,u,rfl,r1,r2⟩
def intD : List D->Option D | [.int i]=>some (.int i) | [.bl b]=>some (.int (if b then 1 else 0)) | _=>none
theorem WN : uZ X (.type "int") intD:=by
 refine ⟨_,Wc,fun G H ds vs d Q sG r e k=>?_⟩
 unfold intD at e
 split at e
 ·cases e
  obtain ⟨v,rfl,r1⟩:=ym r
  have r1:=r1.flat rfl
  simp only [Rep] at r1
  subst r1
  exact .inl ⟨_,rfl,k _ G H (Grow.refl sG) (by simp [Rep])⟩
 ·cases e
  obtain ⟨v,rfl,r1⟩:=ym r
  have r1:=r1.flat rfl
  simp only [Rep] at r1
  subst r1
  exact .inr ⟨_,rfl,k _ G H (Grow.refl sG) (by simp [Rep])⟩
 ·cases e
def maxD : List D->Option D | [.int i,.int j]=>some (.int (if j > i then j else i)) | _=>none
def minD : List D->Option D | [.int i,.int j]=>some (.int (if j < i then j else i)) | _=>none
theorem zaS (hc : X.calm = true) : uZ X (.builtin "max") maxD:=by
 refine ⟨_,Wa hc,fun G H ds vs d Q sG r e k=>?_⟩
 unfold maxD at e
 split at e
 ·cases e
  obtain ⟨v,u,rfl,r1,r2⟩:=kf r
  have r1:=r1.flat rfl
  have r2:=r2.flat rfl
  simp only [Rep] at r1 r2
  subst r1 r2
  exact ⟨_,_,rfl,k _ G H (Grow.refl sG) (by simp [Rep])⟩
 ·cases e
theorem zaT (hc : X.calm = true) : uZ X (.builtin "min") minD:=by
 refine ⟨_,Wb hc,fun G H ds vs d Q sG r e k=>?_⟩
 unfold minD at e
 split at e
 ·cases e
  obtain ⟨v,u,rfl,r1,r2⟩:=kf r
  have r1:=r1.flat rfl
  have r2:=r2.flat rfl
  simp only [Rep] at r1 r2
  subst r1 r2
  exact ⟨_,_,rfl,k _ G H (Grow.refl sG) (by simp [Rep])⟩
 ·cases e
end
section
variable {X : Cx} {pins : List (Addr × Obj)} {σ : St} {H : Hp} {s : Shared} {a : Addr} {kvs : List (Key × V)} {k : Key} {d : V} {u r : Value} {A : Around} {E : Value->Shared->Prop}
end
section
variable {X : Cx} {o e f : Expr} {apos cpos : Pos} {td ty tx : TE}
end
abbrev FX:=En->Option (D × En)
def TL (K : PySem.W.Frag) (t : TE) (f : FX) : Prop:=∀ (B G H : Hp) (δ : En) (σ : St) (d : D) (δ' : En) (Q : VK),zW G H->zW B H->RepS K B G H δ σ->f δ = some (d,δ')->
 (∀ v G' H',Stp B G G' H'->RepS K B G' H' δ' σ->Rep K G' d v->Q v H')->t σ H Q
def PX (X : Cx) (e : Expr) (f : FX) : Prop:=∃ t,PE X e t /\ TL X.K t f
section
variable {X : Cx} {e a b : Expr} {pos : Pos}
@[simp] def xD (f : FE) : FX:=fun δ=>(f δ).map fun d=>(d,δ)
theorem PD.px {f : FE} (h : PD X e f) : PX X e (xD f):=by
 obtain ⟨t,pt,k⟩:=h
 refine ⟨t,pt,fun B G H δ σ d δ' Q sG sB rs ef q=>?_⟩
 unfold xD at ef
 obtain ⟨d',e1,e2⟩:=omE ef
 cases e2
 exact k B G H δ σ _ Q sG rs e1 fun v G' H' g r=>q v G' H' (g.stp sB) (rs.grow g) r
@[simp] def kg (i : Nat) (f : FX) : FS:=fun δ=>(f δ).map fun r=>.nx (r.2.set i (some (.sh r.1)))
theorem uM (i : Nat) {x : Str} {pos' : Pos} {f : FX} (hN : X.N.Nodup) (he : PX X e f) (hi : X.N[i]? = some x:=by rfl) (hx : Loc X.env.scope x:=by first | exact Or.inl rfl | exact Or.inr rfl)
  (hs : swapsWith e (some (.Name x pos')) pos.line X.env = pure false:=by rfl) (hf : X.fn x = true \/ X.env.scope.names.lookup x = some .local:=by first | exact .inl rfl | exact .inr rfl) : PSD X (.Assign [.Name x pos'] e pos) (kg i f):=by
 obtain ⟨t,pt,k⟩:=he
 refine ⟨_,X0 hN hi hx pt hs hf,fun B G H δ σ o D sG sB rs e w=>?_⟩
 unfold kg at e
 obtain ⟨⟨d,δ'⟩,e1,rfl⟩:=omE e
 exact k B G H δ σ d δ' _ sG sB rs e1 fun v G' H' g rs' r=>w _ G' H' g (rs'.set i r)
end
end L2
namespace HT
open PySem PySem.Spec PyProof.Rows
variable {prog : Program} {w : World} {A : Around} {E : Value->Shared->Prop} {s : Shared}
theorem getItem_tuple_all {t sl : Addr} {items : Array Value} {vl vu : Value} {lo hi : Option Int} {Q : Value->Shared->Prop} (ht : IsTup s.heap t items) (hs : s.heap.IsSliceOf sl vl vu .none) (pl : IsPart vl lo) (pu : IsPart vu hi)
  (hw : sIx items.size 0 lo = 0 /\ sIx items.size items.size hi = items.size) (h : Q (.ref t) s) : wpAny (model prog w) A (getItem (.ref t) (.ref sl)) Q E s:=by
 obtain ⟨os,hos,hcs,hds⟩:=id hs
 have hTs : s.TypeIs (.ref sl) "slice":=⟨os,hos,hcs⟩
 unfold getItem
 try with_reducible refine wpAny_holding ?_
 first | refine wpAny_bind (wpAny_pure ?_) | skip
 refine wpAny_bind (wpAny_sequenceKey ht.typeIs (by decide) ?_)
 refine wpAny_bind (wpAny_callSpecial?_slot (name:=Str.ofString "__getitem__") ht.typeIs PyProof.Rows.slot_tuple_getitem
  (wpAny_call_entry PyProof.Rows.slot_tuple_getitem ht.typeIs entry_tuple_getitem ?_ (args_tuple_getitem _ _)))
 show wpAny _ _ (Builtin.Tuple.tupleItemsOf (.ref t) >>= _) _ _ s
 refine wpAny_bind (tupleItemsOf_ ht ?_)
 refine wpAny_bind (wpAny_typeOf hTs ?_)
 rw [if_pos (by decide)]
 refine wpAny_bind (xN hs pl pu ?_)
 have hno : (((sIx items.size 0 lo : Nat) : Int) == 0 && (1 : Int) == 1 && (sIx items.size items.size hi - sIx items.size 0 lo) == items.size) = true:=by
  rw [hw.1,hw.2]; simp
 show wpAny _ _ (if (((sIx items.size 0 lo : Nat) : Int) == 0 && (1 : Int) == 1 && (sIx items.size items.size hi - sIx items.size 0 lo) == items.size) = true then _ else _) _ _ s
 rw [if_pos hno]
 refine wpAny_bind ?_
 unfold Builtin.Tuple.tupleIsExact
 refine wpAny_bind (wpAny_typeOf ht.typeIs (wpAny_pure ?_))
 rw [if_pos (by decide)]
 refine wpAny_bind (wpAny_rule ?_)
 first
  | exact wpAny_pure ⟨_,rfl,wpAny_pure h⟩
  | exact wpAny_bind (wpAny_pure ⟨_,rfl,wpAny_pure h⟩)
  | exact wpAny_pure (wpAny_pure ⟨_,rfl,wpAny_pure h⟩)
  | exact wpAny_pure (wpAny_pure h)
end HT
namespace L2
open PySem PySem.Spec PyProof.Rows
section
variable {X : Cx}
def zcB (K : PySem.W.Frag) : V->Option Int->Option Int->Hp->VK->Prop:=fun x lo hi H Q=>∃ a xs,x = .ref a /\ SqT K H a xs /\
 (HT.sIx xs.length 0 lo = 0 /\ HT.sIx xs.length xs.length hi = xs.length) /\ Q (.ref a) H
theorem QY : SlR X (zcB X.K):=by
 intro pins s σ H x v vl vu lo hi sl Q I rx hs pl pu h
 obtain ⟨a,xs,rfl,hx,hw,q⟩:=h
 cases rx
 obtain ⟨its,r,ht,hz⟩:=I.tuple hx
 have hlen : its.toArray.size = xs.length:=by rw [List.size_toArray]; exact r.length.symm
 refine ⟨"tuple",_,PyProof.Rows.slot_tuple_getitem.lookup,ht.typeIs,?_⟩
 exact HT.getItem_tuple_all ht hs pl pu (by rw [hlen]; exact hw) ⟨.ref a,H,I,rfl,q⟩
def slA (x : D) (lo hi : Option Int) : Option Rs:=match x with
 | .lst ds=>some (.fr (.lst (cutD ds lo hi)))
 | .tup ds=>some (.sh (.tup (cutD ds lo hi)))
 | _=>none
theorem UG {ds : List D} {lo hi : Option Int} (h : HT.sIx ds.length 0 lo = 0 /\ HT.sIx ds.length ds.length hi = ds.length) : cutD ds lo hi = ds:=by
 unfold cutD
 rw [h.1,h.2]
 simp
@[simp] def uN (f : FE) (l h : En->Option (Option Int)) : FR:=fun δ=>(f δ).bind fun x=>(l δ).bind fun lo=>(h δ).bind fun hi=>slA x lo hi
theorem yC {e : Expr} {f : FE} {lo hi : Option Expr} {fl fh : En->Option (Option Int)} {pos p2 : Pos} (he : PB X e f) (hl : POD X lo fl) (hh : POD X hi fh) : PR X (.Subscript e (.Slice lo hi none p2) pos) (uN f fl fh):=by
 obtain ⟨t,pt,k1⟩:=he
 obtain ⟨tl,pl,kl⟩:=hl
 obtain ⟨th,ph,kh⟩:=hh
 refine ⟨_,Yp ((QE.or zax).or QY) pt pl ph,fun B G H δ σ d Q sG rs e k=>?_⟩
 unfold uN at e
 obtain ⟨x,e1,e⟩:=obE e
 obtain ⟨l,e2,e⟩:=obE e
 obtain ⟨h,e3,e⟩:=obE e
 refine k1 B G H δ σ x _ sG rs e1 fun v G1 H1 g1 r1=>kl B G1 H1 δ σ l _ g1.s (rs.grow g1) e2 fun G2 H2 g2=>kh B G2 H2 δ σ h _ g2.s (rs.grow (g1.trans g2)) e3 fun G3 H3 g3=>?_
 have g13:=(g1.trans g2).trans g3
 have r3:=r1.grow (g2.trans g3)
 unfold slA at e
 split at e
 ·cases e
  obtain ⟨a,vs,rfl,q,rl⟩:=r3.lst g3.s
  exact .inl (.inl ⟨a,vs,rfl,q,fun p hp=>k p _ G3 H3 g13 hp True.intro (rl.cut l h)⟩)
 ·rename_i ds _ _
  cases e
  have r3:=r3.tup
  have r4:=r3
  simp only [Rep] at r4
  obtain ⟨a,vs,rfl,q,rl⟩:=r4
  by_cases hw : HT.sIx ds.length 0 l = 0 /\ HT.sIx ds.length ds.length h = ds.length
  ·rw [UG hw] at k
   exact .inr ⟨a,vs,rfl,g3.s.sqT q,by rw [<- rl.length]; exact hw,k _ _ _ g13 r3⟩
  ·exact .inl (.inr ⟨a,vs,rfl,g3.s.sqT q,by rw [<- rl.length]; exact hw,fun p hp=>k _ _ _ (g13.trans (Grow.laid g3.s _ hp)) (vJ (g3.s.free hp) (rl.cut l h))⟩)
 ·cases e
def zaU (K : PySem.W.Frag) : V->List V->Hp->VK->Prop:=fun x vs H Q=>∃ z a ys,x = .str z /\ vs = [.ref a] /\ SqL K H a (ys.map V.str) /\ (ys.map fun y=>y.length).sum + ys.length * z.length <= 16777216 /\ Q (.str (Txt.join z ys)) H
theorem vM : ∀ {ys : List Str} {us : List Value},yn (ys.map V.str) us->StrsAre us ys
 | [],_,h=>by cases h; exact .nil
 | y::ys,_,h=>by
  cases h with
  | cons r rr=>
   obtain ⟨t,rfl⟩:=r
   exact .cons y t (vM rr)
theorem QZ : MtR X "str.join" (zaU X.K):=by
 intro pins s σ H x vs v us Q I rx rv h
 obtain ⟨z,a,ys,rfl,rfl,hq,hl,q⟩:=h
 obtain ⟨t,rfl⟩:=rx
 obtain ⟨u,rfl,ru⟩:=rv.one
 cases ru
 obtain ⟨its,r,p,hz⟩:=I.list hq
 refine join_list p.isList (by simpa using vM r) hl fun t' k=>?_
 exact ⟨.str (Txt.join z ys),H,I.tok _,⟨t',rfl⟩,q⟩
def xF : List D->Option (List Str)
 | []=>some []
 | .str x::r=>(xF r).map (x::·)
 | _=>none
theorem tj {K : PySem.W.Frag} {G : Hp} : ∀ {ds : List D} {ys : List Str} {vs : List V},xF ds = some ys->RepL K G ds vs->vs = ys.map V.str
 | [],_,_,e,r=>by cases e; simp only [RepL] at r; exact r
 | d::ds,ys,vs,e,r=>by
  cases d with
  | str x=>
   simp only [xF] at e
   obtain ⟨zs,e1,rfl⟩:=omE e
   simp only [RepL] at r
   obtain ⟨v,us,rfl,r1,r2⟩:=r
   simp only [Rep] at r1
   subst r1
   rw [tj e1 r2]; rfl
  | non=>cases e
  | bl b=>cases e
  | int b=>cases e
  | tup b=>cases e
  | lst b=>cases e
  | dic b c=>cases e
  | obj _ _ _=>cases e
def uB : D->D->Option D
 | .str z,.lst ds=>(xF ds).bind fun ys=>if (ys.map fun y=>y.length).sum + ys.length * z.length <= 16777216 then some (.str (Txt.join z ys)) else none
 | _,_=>none
theorem tp {o a : Expr} {fo fa : FE} {p1 p2 : Pos} (ho : PD X o fo) (ha : PB X a fa)
  (hb : ∀ {to ta : TE},PE X o to->PE X a ta->PE X (.Call (.Attribute o "join" p1) [a] [] p2) (tBM X.K "str" (zaU X.K) to (qO ta tNil)):=by
   intro to ta hx ht; exact jV PySem.F.plainAttrs_str PySem.F.slot_str_join PySem.F.type_str_join QZ hx (ya ht yJ)) :
  PD X (.Call (.Attribute o "join" p1) [a] [] p2) (f2 uB fo fa):=by
 obtain ⟨t1,q1,k1⟩:=ho
 obtain ⟨t2,q2,k2⟩:=ha
 refine ⟨_,hb q1 q2,fun B G H δ σ d Q sG rs ef k=>?_⟩
 unfold f2 at ef
 obtain ⟨x,e1,ef⟩:=obE ef
 obtain ⟨y,e2,ef⟩:=obE ef
 unfold uB at ef
 split at ef
 ·rename_i z ds _
  obtain ⟨ys,e3,ef⟩:=obE ef
  split at ef
  ·rename_i hl
   cases ef
   refine k1 B G H δ σ _ _ sG rs e1 fun v G1 H1 g1 r1=>?_
   simp only [Rep] at r1
   subst r1
   refine ⟨rfl,k2 B G1 H1 δ σ _ _ g1.s (rs.grow g1) e2 fun u G2 H2 g2 r2=>?_⟩
   obtain ⟨a,vs,rfl,hq,rl⟩:=r2.lst g2.s
   obtain rfl:=tj e3 rl
   exact ⟨z,a,ys,rfl,rfl,hq,hl,k _ G2 H2 (g1.trans g2) (by simp [Rep])⟩
  ·cases ef
 ·cases ef
@[simp] def ZI (f g : FE) : En->Option (List D):=fun δ=>(f δ).bind fun x=>(g δ).bind fun y=>match x,y with
 | .int i,.int j=>if -(2 ^ 62) <= i /\ i < 2 ^ 62 /\ -(2 ^ 62) <= j /\ j < 2 ^ 62 then some (wV i (j - i).toNat) else none
 | _,_=>none
theorem vN {tg a b : Expr} {f g : FE} {p pos : Pos} (hm : X.mg "range" = none) (ha : PD X a f) (hb : PD X b g) (hg : Gl X "range":=by rfl) (hs : starEach [a,b] X.env = [(false,eval a X.env),(false,eval b X.env)]:=by rfl) (hs2 : starEach [b] X.env = [(false,eval b X.env)]:=by rfl) (hs3 : starEach [] X.env = []:=by rfl) : PID X tg (.Call (.Name "range" p) [a,b] [] pos) (ZI f g):=by
 obtain ⟨t1,q1,k1⟩:=ha
 obtain ⟨t2,q2,k2⟩:=hb
 refine ⟨_,X3 hg hm (ya q1 (ya q2 yJ (by rw [hs2,hs3])) (by rw [hs,hs2])) hs hs2,fun B G H δ σ xs R sG rs e q=>?_⟩
 unfold ZI at e
 obtain ⟨x,e1,e⟩:=obE e
 obtain ⟨y,e2,e⟩:=obE e
 split at e
 ·rename_i i j _
  split at e
  ·rename_i hj
   cases e
   refine k1 B G H δ σ _ _ sG rs e1 fun v G1 H1 g1 r1=>k2 B G1 H1 δ σ _ _ g1.s (rs.grow g1) e2 fun u G2 H2 g2 r2=>?_
   simp only [Rep] at r1 r2
   subst r1 r2
   refine ⟨i,j,rfl,hj,q _ G2 H2 (g1.trans g2) ⟨fun m d G' H' ed a1 b1=>?_,fun G' H' a1 b1=>?_⟩⟩
   ·unfold wV at ed
    rw [List.getElem?_map] at ed
    obtain ⟨c,ec,rfl⟩:=omE ed
    obtain ⟨hi,hc⟩:=List.getElem?_eq_some_iff.mp ec
    rw [List.length_range] at hi
    rw [List.getElem_range] at hc
    subst hc
    refine ⟨hi,fun x' H2 y=>⟨y.1,?_⟩⟩
    rw [y.2]
    simp [Rep]
   ·show (j - i).toNat <= (wV i (j - i).toNat).length
    simp [wV]
  ·cases e
 ·cases e
end
section
variable {prog : Program} {w : World} {A : Around} {E : Value->Shared->Prop} {s : Shared}
end
section
variable {prog : Program} {w : World} {A : Around} {E : Value->Shared->Prop} {s : Shared}
end
section
variable {prog : Program} {w : World} {A : Around} {E : Value->Shared->Prop} {s : Shared}
end
section
variable {prog : Program} {w : World} {A : Around} {E : Value->Shared->Prop} {s : Shared}
end
section
variable {prog : Program} {w : World} {A : Around} {E : Value->Shared->Prop} {s : Shared}
end
section
variable {X : Cx} {pins : List (Addr × Obj)} {σ : List (Option V)} {H H' : Hp} {s : Shared} {h' : Heap}
end
section
variable {X : Cx} {pins : List (Addr × Obj)} {σ : St} {H : Hp} {s : Shared}
end
section
variable {X : Cx}
end
mutual
def qZ : D->Bool
 | .tup ds=>noMutL ds
 | .lst _=>false
 | .dic _ _=>false
 | .obj _ _ _=>false
 | _=>true
def noMutL : List D->Bool
 | []=>true
 | d::ds=>qZ d && noMutL ds
end
def ZJ : HO->Bool | .lst _=>true | .dK _=>true | _=>false
theorem UH {G G' : Hp} (h : ∀ a o,ZJ o = false->G a = some o->G' a = some o) {a : Addr} {xs : List V} (r : Rd G a (.tup xs)) : Rd G' a (.tup xs):=by
 rcases r with r | ⟨o,r⟩
 ·exact .inl (h _ _ rfl r)
 ·exact .inr ⟨o,h _ _ rfl r⟩
mutual
theorem ki {K : PySem.W.Frag} {G G' : Hp} (h : ∀ a o,ZJ o = false->G a = some o->G' a = some o) : ∀ {d : D} {v : V},qZ d = true->Rep K G d v->Rep K G' d v
 | .non,_,_,r=>by simp only [Rep] at r ⊢; exact r
 | .bl _,_,_,r=>by simp only [Rep] at r ⊢; exact r
 | .int _,_,_,r=>by simp only [Rep] at r ⊢; exact r
 | .str _,_,_,r=>by simp only [Rep] at r ⊢; exact r
 | .tup ds,_,e,r=>by
  simp only [Rep] at r ⊢
  obtain ⟨a,vs,h1,h2,h3⟩:=r
  simp only [qZ] at e
  exact ⟨a,vs,h1,h2.elim (fun z=>.inl (UH h z)) .inr,repL_noMut h e h3⟩
 | .lst _,_,e,_=>by simp [qZ] at e
 | .dic _ _,_,e,_=>by simp [qZ] at e
 | .obj _ _ _,_,e,_=>by simp [qZ] at e
theorem repL_noMut {K : PySem.W.Frag} {G G' : Hp} (h : ∀ a o,ZJ o = false->G a = some o->G' a = some o) : ∀ {ds : List D} {vs : List V},noMutL ds = true->RepL K G ds vs->RepL K G' ds vs
 | [],_,_,r=>by simp only [RepL] at r ⊢; exact r
 | d::ds,_,e,r=>by
  simp only [RepL] at r ⊢
  simp only [noMutL,Bool.and_eq_true] at e
  obtain ⟨v,us,h1,h2,h3⟩:=r
  exact ⟨v,us,h1,ki h e.1 h2,repL_noMut h e.2 h3⟩
end
def xa (G H : Hp) : Hp:=fun a=>match G a with | some o=>some o | none=>match H a with | some o=>if ZJ o = true then some o else none | none=>none
def vO (G G' : Hp) : Hp:=fun a=>match G' a with | some o=>if ZJ o = true /\ G a = none then none else some o | none=>none
theorem kj {G H : Hp} (s : zW G H) : zW (xa G H) H:=fun a o e=>by
 unfold xa at e
 cases eg : G a with
 | some u=>rw [eg] at e; cases e; exact s a _ eg
 | none=>
  rw [eg] at e
  cases eh : H a with
  | none=>rw [eh] at e; cases e
  | some u=>rw [eh] at e; dsimp only at e; split at e <;> cases e; rfl
theorem xg {G H : Hp} : zW G (xa G H):=fun a o e=>by unfold xa; rw [e]
theorem qi {K : PySem.W.Frag} {G H : Hp} (s : zW G H) : ∀ {ds : List D} {vs : List V},tX K G H ds vs->RepL K (xa G H) ds vs
 | [],_,h=>by simp only [tX] at h; simp only [RepL]; exact h
 | d::ds,_,h=>by
  obtain ⟨v,r,h1,h2,h3⟩:=h
  simp only [RepL]
  refine ⟨v,r,h1,?_,qi s h3⟩
  rcases h2 with h2 | ⟨m,a,us,e1,e2,e3,e4,e5⟩
  ·exact h2.mono xg
  ·subst e1 e2
   have key : xa G H a = some (m.ho us):=by
    unfold xa
    cases eg : G a with
    | some u=>exact (s a u eg).symm.trans e3
    | none=>rw [e3]; cases m <;> rfl
   cases m with
   | lst xs=>simp only [Mo.d,Rep]; exact ⟨a,us,rfl,SqL.of key,e5.mono xg⟩
   | dic ks xs=>simp only [Mo.d,Rep]; exact ⟨a,us,rfl,.inl key,e4.1,e4.2,e5.mono xg⟩
theorem WO {G H G' H' : Hp} (s : zW G H) (g : Grow (xa G H) H G' H') : Grow G H (vO G G') H' where
 g:=fun a o e=>by
  unfold vO
  rw [g.g a o (xg a o e)]
  dsimp only
  rw [if_neg (by rw [e]; exact fun z=>nomatch z.2)]
 h:=g.h
 s:=fun a o e=>by
  unfold vO at e
  cases eg : G' a with
  | none=>rw [eg] at e; cases e
  | some u=>
   rw [eg] at e
   dsimp only at e
   split at e
   ·cases e
   ·cases e; exact g.s a _ eg
 n:=fun a o e n=>by
  unfold vO
  cases eg : G' a with
  | none=>rfl
  | some u=>
   dsimp only
   have e1 : H' a = some u:=g.s a u eg
   have e2 : u = o:=Option.some.inj (e1.symm.trans (g.h a o e))
   subst e2
   cases hm : ZJ u with
   | true=>rw [if_pos ⟨rfl,n⟩]
   | false=>
    have : xa G H a = none:=by unfold xa; rw [n,e]; dsimp only; rw [hm]; rfl
    rw [g.n a u e this] at eg
    cases eg
theorem WQ {G G' : Hp} : ∀ a o,ZJ o = false->G' a = some o->vO G G' a = some o:=fun a o e h=>by
 unfold vO; rw [h]; dsimp only; rw [if_neg (by rw [e]; exact fun z=>nomatch z.1)]
section
variable {X : Cx} {e : Expr} {es : List Expr} {pos p : Pos}
end
theorem Xp {X : Cx} {t : TE} {f : FR} (i : Nat) (k : Yx X.K t f) : WA X (zah t (jK i)) (yu i (zM f)):=fun B G H δ σ o D sG sB rs e w=>by
 unfold yu zM at e
 obtain ⟨d,e1,rfl⟩:=omE e
 obtain ⟨r,e2,rfl⟩:=omE e1
 exact k B G H δ σ r _ sG rs e2 (qS.of fun v G' H' g r=>w _ G' H' (g.stp sB) ((rs.grow g).set i r))
section
variable {X : Cx}
theorem ZK {N : List Str} {nl i n : Nat} {y : Str} {js : List Nat} {scope : Scope} {cl : List (Str × Addr)} {elt iter : Expr} {ifs : List Expr} {x : Str} {px pos spos py : Pos} {it : En->Option (List D)} {c : En->Option Bool} {g : FE}
  (hN : X.N.Nodup) (hi' : X.N[n]? = some y) (hy : Loc X.env.scope y) (hyl : X.env.scope.names.lookup y = some .local)
  (hc : X.calm = true) (ok : CompOk X N nl js scope cl) (hi : PID X (.Name x px) iter it) (hin : i < nl) (hNd : N.Nodup) (hix : N[i]? = some x) (hx : scope.names.lookup x = some .local)
  (hjs : js.Nodup) (ht : ∀ C s₀ H₀ ex,ZE (z9 X N scope cl C s₀ H₀ ex) ifs c) (he : ∀ C s₀ H₀ ex,PD (z9 X N scope cl C s₀ H₀ ex) elt g)
  (hsw : swapsWith (.ListComp elt [⟨.Name x px,iter,ifs,0⟩] scope pos) (some (.Name y py)) spos.line X.env = pure true)
  (hs : ∀ x,foldedSetIterable iter X.env x = pure x) :
  ∃ t,PS X (.Assign [.Name y py] (.ListComp elt [⟨.Name x px,iter,ifs,0⟩] scope pos) spos) (zah t (jK n)) /\ Yx X.K t (yD nl js i it c g):=by
 obtain ⟨wi,pw,kw⟩:=hi
 exact ⟨_,Xi (ti:=zb5 X.K c) (te:=tOf X.K g) hN hi' hy hyl hc ok pw (vI hin) (fun C s₀ H₀ ex=>qN hNd hix (.inl (lookup_relabel_local hx)) (.inr (lookup_relabel_local hx))) (fun C s₀ H₀ ex=>(ht C s₀ H₀ ex).canon) (fun C s₀ H₀ ex=>(he C s₀ H₀ ex).canon) hsw hs,
  qe (ti:=zb5 X.K c) (te:=tOf X.K g) kw (fun B G H δ σ b Q sG rs e k=>⟨B,G,δ,b,sG,rs,e,k⟩) j6 hjs⟩
theorem UI {N : List Str} {nl i : Nat} (n : Nat) {y : Str} {js : List Nat} {scope : Scope} {cl : List (Str × Addr)} {elt iter : Expr} {ifs : List Expr} {x : Str} {px pos spos py : Pos} {it : En->Option (List D)} {c : En->Option Bool} {g : FE}
  (hN : X.N.Nodup) (hc : X.calm = true) (ok : CompOk X N nl js scope cl) (hi : PID X (.Name x px) iter it) (hin : i < nl) (hNd : N.Nodup) (hix : N[i]? = some x) (hx : scope.names.lookup x = some .local)
  (hjs : js.Nodup) (ht : ∀ C s₀ H₀ ex,ZE (z9 X N scope cl C s₀ H₀ ex) ifs c) (he : ∀ C s₀ H₀ ex,PD (z9 X N scope cl C s₀ H₀ ex) elt g)
  (hi' : X.N[n]? = some y:=by rfl) (hy : Loc X.env.scope y:=by first | exact Or.inl rfl | exact Or.inr rfl) (hyl : X.env.scope.names.lookup y = some .local:=by rfl)
  (hsw : swapsWith (.ListComp elt [⟨.Name x px,iter,ifs,0⟩] scope pos) (some (.Name y py)) spos.line X.env = pure true:=by rfl)
  (hs : ∀ x,foldedSetIterable iter X.env x = pure x:=by intro _; rfl) :
  PSD X (.Assign [.Name y py] (.ListComp elt [⟨.Name x px,iter,ifs,0⟩] scope pos) spos) (yu n (zM (yD nl js i it c g))):=by
 obtain ⟨t,p,k⟩:=ZK hN hi' hy hyl hc ok hi hin hNd hix hx hjs ht he hsw hs
 exact ⟨_,p,Xp n k⟩
end
inductive Ag where | v (d : D) | o (m : Mo)
def mkS : List Ag->List Addr->List Sl
 | .v d::r,_::as=>.sh d::mkS r as
 | .o m::r,a::as=>.pv m (some a)::mkS r as
 | _,_=>[]
def km : List Ag->List Addr->List (Option Mo)->List (Option Sl)->Prop
 | [],_,ms,_=>ms = []
 | .v _::r,as,ms,res=>∃ a as' ms' x res',as = a::as' /\ ms = none::ms' /\ res = x::res' /\ km r as' ms' res'
 | .o _::r,as,ms,res=>∃ a as' m' ms' res',as = a::as' /\ ms = some m'::ms' /\ res = some (.pv m' (some a))::res' /\ km r as' ms' res'
def WR (M : List Sl->Option (Rs × En)) (ags : List Ag) (r : Rs) (ms : List (Option Mo)) : Prop:=∀ as : List Addr,as.length = ags.length->∃ res,M (mkS ags as) = some (r,res) /\ km ags as ms res
theorem km.uniq : ∀ {ags : List Ag} {as : List Addr} {ms ms' : List (Option Mo)} {res : En},km ags as ms res->km ags as ms' res->ms = ms'
 | [],_,_,_,_,h,h'=>by simp only [km] at h h'; rw [h,h']
 | .v _::r,_,_,_,_,h,h'=>by
  simp only [km] at h h'
  obtain ⟨a,as1,ms1,x,res1,rfl,rfl,rfl,h1⟩:=h
  obtain ⟨b,as2,ms2,y,res2,e1,rfl,e2,h2⟩:=h'
  cases e1
  cases e2
  rw [km.uniq h1 h2]
 | .o _::r,_,_,_,_,h,h'=>by
  simp only [km] at h h'
  obtain ⟨a,as1,m1,ms1,res1,rfl,rfl,rfl,h1⟩:=h
  obtain ⟨b,as2,m2,ms2,res2,e1,rfl,e2,h2⟩:=h'
  cases e1
  cases e2
  rw [km.uniq h1 h2]
theorem WR.uniq {M : List Sl->Option (Rs × En)} {ags : List Ag} {r r' : Rs} {ms ms' : List (Option Mo)} (h : WR M ags r ms) (h' : WR M ags r' ms') : (r,ms) = (r',ms'):=by
 obtain ⟨res,e,f⟩:=h (List.replicate ags.length 0) (by simp)
 obtain ⟨res',e',f'⟩:=h' (List.replicate ags.length 0) (by simp)
 rw [e] at e'
 cases e'
 rw [f.uniq f']
open Classical in
noncomputable def J0 (M : List Sl->Option (Rs × En)) (ags : List Ag) : Option (Rs × List (Option Mo)):=if h : ∃ p : Rs × List (Option Mo),WR M ags p.1 p.2 then some h.choose else none
theorem Q0 {M : List Sl->Option (Rs × En)} {ags : List Ag} {r : Rs} {ms : List (Option Mo)} (h : WR M ags r ms) : J0 M ags = some (r,ms):=by
 unfold J0
 have hx : ∃ p : Rs × List (Option Mo),WR M ags p.1 p.2:=⟨(r,ms),h⟩
 rw [dif_pos hx]
 exact congrArg some (hx.choose_spec.uniq h)
theorem WS {M : List Sl->Option (Rs × En)} {ags : List Ag} {p : Rs × List (Option Mo)} (h : J0 M ags = some p) : WR M ags p.1 p.2:=by
 unfold J0 at h
 split at h
 ·rename_i hx
  cases h
  exact hx.choose_spec
 ·cases h
def startS (N : List Str) (xs : List Sl) : En:=xs.map some++List.replicate (N.length - xs.length) none
def TM (N : List Str) (n : Nat) (fb : FS) : List Sl->Option (Rs × En):=fun xs=>if xs.length = n then (match fb (startS N xs) with | some (.rt r δ)=>some (r,δ.take n) | some (.nx δ)=>some (.sh .non,δ.take n) | _=>none) else none
def zcC (K : PySem.W.Frag) (B G : Hp) (Q : VK) (res : En) : Rs->Prop
 | .sh d=>∀ v σ' G' H',Stp B G G' H'->RepS K B G' H' res σ'->Rep K G' d v->Q v H'
 | .fr m=>∀ p vs σ' G' H',Stp B G G' H'->RepS K B G' H' res σ'->H' p = none->m.ok->RepL K G' m.vals vs->Q (.ref p) (upd H' p (m.ho vs))
def spM (K : PySem.W.Frag) (M : List Sl->Option (Rs × En)) : Sp:=fun vs H Q _=>∃ B G xs r res,zW G H /\ zW B H /\ RepS K B G H (xs.map some) (vs.map some) /\ M xs = some (r,res) /\ zcC K B G Q res r
def YD (P : Program) (w : World) (K : PySem.W.Frag) (mg : Str->Option Value) (base : Heap) (k : Nat) (x : Str) (ps : List Str) (M : List Sl->Option (Rs × En)) : Prop:=
 ∃ f fd,FnOk P w K mg base CX0 k f fd ps (spM K M) /\ Zx K fd ps [] /\ PySem.W.keepIn K (.ref f) = true /\ mg x = some (.ref f)
theorem RepS.more {K : PySem.W.Frag} {B G H : Hp} {δ : En} {σ : St} (r : RepS K B G H δ σ) (k : Nat) : RepS K B G H (δ++List.replicate k none) (σ++List.replicate k none):=by
 have key : ∀ (i : Nat) (x : Sl),(δ++List.replicate k none)[i]? = some (some x)->δ[i]? = some (some x) /\ i < σ.length:=fun i x e=>by
  by_cases hi : i < δ.length
  ·rw [List.getElem?_append_left hi] at e; exact ⟨e,by rw [<- r.len]; exact hi⟩
  ·rw [List.getElem?_append_right (by omega),List.getElem?_replicate] at e
   split at e <;> cases e
 refine ⟨by simp [r.len],fun i x e=>?_,fun i j x y o o' hij e1 e2=>?_⟩
 ·obtain ⟨e1,hl⟩:=key i x e
  obtain ⟨v,h1,h2⟩:=r.at_ i x e1
  exact ⟨v,by rw [List.getElem?_append_left hl]; exact h1,h2⟩
 ·obtain ⟨f1,l1⟩:=key i _ e1
  obtain ⟨f2,l2⟩:=key j _ e2
  rw [List.getElem?_append_left l1,List.getElem?_append_left l2]
  exact r.ap i j x y o o' hij f1 f2
theorem RepS.take {K : PySem.W.Frag} {B G H : Hp} {δ : En} {σ : St} (r : RepS K B G H δ σ) (n : Nat) : RepS K B G H (δ.take n) (σ.take n):=by
 have key : ∀ (i : Nat) (x : Sl),(δ.take n)[i]? = some (some x)->δ[i]? = some (some x) /\ i < n:=fun i x e=>by
  rw [List.getElem?_take] at e
  split at e
  ·exact ⟨e,by assumption⟩
  ·cases e
 refine ⟨by simp [r.len],fun i x e=>?_,fun i j x y o o' hij e1 e2=>?_⟩
 ·obtain ⟨e1,hl⟩:=key i x e
  obtain ⟨v,h1,h2⟩:=r.at_ i x e1
  exact ⟨v,by rw [List.getElem?_take,if_pos hl]; exact h1,h2⟩
 ·obtain ⟨f1,l1⟩:=key i _ e1
  obtain ⟨f2,l2⟩:=key j _ e2
  rw [List.getElem?_take,if_pos l1,List.getElem?_take,if_pos l2]
  exact r.ap i j x y o o' hij f1 f2
section
variable {P : Program} {w : World} {K : PySem.W.Frag} {mg : Str->Option Value} {base : Heap}
theorem WT {x : Str} {st : Stmt} {N ps : List Str} {k : Nat} {fb : FS} {f : Addr} {fd : FuncData} (F : Fun K x x st f fd) (S : FnScope N ps (zk st))
  (hbody : ∀ (f : Addr) (cdv : Value) (A : Around) (outer : List Env) (s : Shared) (H : Hp) (E : XK),Room k (A.deeper (envOfC x (zk st) s.heap.objs.size f cdv))->WB (cxD P w K mg base N x (zk st) f cdv A outer s H E) (yB st) fb) :
  FnOk P w K mg base CX0 (k + 1) f fd ps (spM K (TM N ps.length fb)):=by
 refine F.ok S (fun vs H Q E h=>?_) (fun cdv A outer s H vs Q E hr h=>?_)
 ·obtain ⟨B,G,xs,r,res,sG,sB,rs,e,_⟩:=h
  have hl:=rs.len
  rw [List.length_map,List.length_map] at hl
  rw [<- hl]
  unfold TM at e
  split at e
  ·rename_i hl; exact hl
  ·cases e
 ·obtain ⟨B,G,xs,r,res,sG,sB,rs,e,q⟩:=h
  obtain ⟨t,pt,kt⟩:=hbody f cdv A outer s H E hr
  have hl:=rs.len
  rw [List.length_map,List.length_map] at hl
  refine ⟨t,pt,?_⟩
  have rs0 : RepS K B G H (startS N xs) (vH N vs):=by
   unfold startS vH
   rw [hl]
   exact rs.more _
  unfold TM at e
  split at e
  ·split at e
   ·rename_i eb
    cases e
    refine kt B G H _ _ _ _ sG sB rs0 eb ?_
    cases r with
    | sh d=>exact fun v σ' G' H' a rs' rv=>q v _ G' H' a (rs'.take _) rv
    | fr m=>exact fun p vs σ' G' H' a rs'=>q p vs _ G' H' a (rs'.take _)
   ·rename_i eb
    cases e
    exact kt B G H _ _ _ _ sG sB rs0 eb fun σ' G' H' a rs'=>q _ _ G' H' a (rs'.take _) (by simp [Rep])
   ·cases e
  ·cases e
theorem UJ {x : Str} {st : Stmt} {N ps : List Str} {k : Nat} {fb : FS} (F : zZ K mg x st) (S : FnScope N ps (zk st))
  (hb : ∀ (kV doc pm : Value) (an : Option Addr) (cdv ct : Value) (us : List Value),us.length = ps.length->bindArgs (PySem.W.fnOf x x (xl st) (yB st) (zk st) .none kV doc pm an cdv ct) ⟨us,[]⟩ = pure (ps.zip us))
  (hbody : ∀ (f : Addr) (cdv : Value) (A : Around) (outer : List Env) (s : Shared) (H : Hp) (E : XK),Room k (A.deeper (envOfC x (zk st) s.heap.objs.size f cdv))->WB (cxD P w K mg base N x (zk st) f cdv A outer s H E) (yB st) fb) :
  YD P w K mg base (k + 1) x ps (TM N ps.length fb):=by
 obtain ⟨f,fd,F,hm⟩:=F
 exact ⟨f,fd,WT F S hbody,F.binds hb,F.kp,hm⟩
end
inductive Ar where | own (j : Nat) | val (f : FE)
def Q2 : List Ar->En->Option (List Ag)
 | [],_=>some []
 | .own j::r,δ=>match δ[j]? with | some (some (.pv m _))=>(Q2 r δ).map (.o m::·) | _=>none
 | .val f::r,δ=>(f δ).bind fun d=>(Q2 r δ).map (.v d::·)
def xr : List Ar->List Nat
 | []=>[]
 | .own j::r=>j::xr r
 | .val _::r=>xr r
def xQ : List Ar->List (Option Mo)->List (Nat × Mo)
 | .own j::r,some m::ms=>(j,m)::xQ r ms
 | _::r,_::ms=>xQ r ms
 | _,_=>[]
def UK (q : Option Mo) (x : Option Sl) : Option Sl:=match q,x with | some m',some (.pv _ o)=>some (.pv m' o) | _,x=>x
def q0 (q : Nat->Option Mo) : Nat->En->En
 | _,[]=>[]
 | k,x::r=>UK (q k) x::q0 q (k + 1) r
theorem wg {q : Nat->Option Mo} : ∀ {k : Nat} {δ : En} {j : Nat},(q0 q k δ)[j]? = δ[j]?.map (UK (q (k + j)))
 | _,[],_=>rfl
 | k,x::r,0=>rfl
 | k,x::r,j + 1=>by
  show (q0 q (k + 1) r)[j]? = _
  rw [wg,List.getElem?_cons_succ,show k + 1 + j = k + (j + 1) by omega]
theorem tq {q : Nat->Option Mo} : ∀ {k : Nat} {δ : En},(q0 q k δ).length = δ.length
 | _,[]=>rfl
 | k,x::r=>by show (q0 q (k + 1) r).length + 1 = _; rw [tq]; rfl
noncomputable def kn (M : List Sl->Option (Rs × En)) (ars : List Ar) : FX:=fun δ=>(Q2 ars δ).bind fun ags=>(J0 M ags).bind fun p=>match p.1 with | .sh d=>some (d,q0 (fun j=>(xQ ars p.2).lookup j) 0 δ) | _=>none
def YE (K : PySem.W.Frag) (G : Hp) (δ : En) (σ : St) : List Ar->List Ag->List V->Prop
 | [],ags,vs=>ags = [] /\ vs = []
 | .own j::r,ags,vs=>∃ m o ags' v vs',ags = .o m::ags' /\ vs = v::vs' /\ δ[j]? = some (some (.pv m o)) /\ σ[j]? = some (some v) /\ YE K G δ σ r ags' vs'
 | .val _::r,ags,vs=>∃ d ags' v vs',ags = .v d::ags' /\ vs = v::vs' /\ Rep K G d v /\ YE K G δ σ r ags' vs'
def PAM (X : Cx) (es : List Expr) (ars : List Ar) : Prop:=∃ t,PA X es t /\ ∀ (B G H : Hp) (δ : En) (σ : St) (ags : List Ag) (Q : List V->Hp->Prop),zW G H->RepS X.K B G H δ σ->Q2 ars δ = some ags->
 (∀ vs G' H',Grow G H G' H'->YE X.K G' δ σ ars ags vs->Q vs H')->t σ H Q
section
variable {X : Cx} {e : Expr} {es : List Expr} {f : FE} {ars : List Ar} {pos p : Pos}
theorem Q3 : PAM X [] []:=⟨_,yJ,fun B G H δ σ ags Q sG rs ef k=>by cases ef; exact k _ G H (Grow.refl sG) ⟨rfl,rfl⟩⟩
theorem ZL (ha : PD X e f) (hr : PAM X es ars) (hs : starEach (e::es) X.env = (false,eval e X.env)::starEach es X.env:=by rfl) : PAM X (e::es) (.val f::ars):=by
 obtain ⟨ta,pa,ka⟩:=ha
 obtain ⟨tr,pr,kr⟩:=hr
 refine ⟨_,ya pa pr hs,fun B G H δ σ ds Q sG rs ef k=>?_⟩
 unfold Q2 at ef
 obtain ⟨d,e1,ef⟩:=obE ef
 obtain ⟨ags',e2,rfl⟩:=omE ef
 exact ka B G H δ σ d _ sG rs e1 fun v G1 H1 g1 r1=>kr B G1 H1 δ σ ags' _ g1.s (rs.grow g1) e2 fun vs G2 H2 g2 r2=>k _ G2 H2 (g1.trans g2) ⟨d,ags',v,vs,rfl,rfl,r1.mono g2.g,r2⟩
theorem Q4 (j : Nat) {x : Str} (hr : PAM X es ars) (hN : X.N[j]? = some x:=by rfl) (hv : Vis X.env.scope x:=by first | exact Or.inl rfl | exact Or.inr (Or.inl rfl) | exact Or.inr (Or.inr rfl)) (hd : (x == ("__debug__" : Str)) = false:=by decide)
  (hcd : (x == ("__classdict__" : Str)) = false:=by decide) (hs : starEach (.Name x p::es) X.env = (false,eval (.Name x p) X.env)::starEach es X.env:=by rfl) : PAM X (.Name x p::es) (.own j::ars):=by
 obtain ⟨tr,pr,kr⟩:=hr
 refine ⟨_,ya (wW hN hv hd hcd) pr hs,fun B G H δ σ ds Q sG rs ef k=>?_⟩
 unfold Q2 at ef
 split at ef
 ·rename_i m o em
  obtain ⟨ags',e2,rfl⟩:=omE ef
  obtain ⟨v,h1,h2⟩:=rs.at_ j _ em
  exact ⟨v,h1,kr B G H δ σ ags' _ sG rs e2 fun vs G2 H2 g2 r2=>k _ G2 H2 g2 ⟨m,o,ags',v,vs,rfl,rfl,em,h1,r2⟩⟩
 ·cases ef
end
def q8 (K : PySem.W.Frag) (G : Hp) (δ : En) (σ : St) : List Ar->List Ag->List V->List Addr->Prop
 | [],ags,vs,as=>ags = [] /\ vs = [] /\ as = []
 | .own j::r,ags,vs,as=>∃ m o ags' vs' a as',ags = .o m::ags' /\ vs = .ref a::vs' /\ as = a::as' /\ δ[j]? = some (some (.pv m o)) /\ σ[j]? = some (some (.ref a)) /\ q8 K G δ σ r ags' vs' as'
 | .val _::r,ags,vs,as=>∃ d ags' v vs' a as',ags = .v d::ags' /\ vs = v::vs' /\ as = a::as' /\ Rep K G d v /\ q8 K G δ σ r ags' vs' as'
theorem ZM {K : PySem.W.Frag} {B G H : Hp} {δ : En} {σ : St} (rs : RepS K B G H δ σ) : ∀ {ars : List Ar} {ags : List Ag} {vs : List V},YE K G δ σ ars ags vs->∃ as,q8 K G δ σ ars ags vs as
 | [],_,_,⟨h1,h2⟩=>⟨[],h1,h2,rfl⟩
 | .own j::r,_,_,⟨m,o,ags',v,vs',h1,h2,h3,h4,h5⟩=>by
  obtain ⟨as,h⟩:=ZM rs h5
  obtain ⟨w,e1,a,us,rfl,_⟩:=rs.at_ j _ h3
  rw [h4] at e1
  cases e1
  exact ⟨a::as,m,o,ags',vs',a,as,h1,h2,rfl,h3,h4,h⟩
 | .val _::r,_,_,⟨d,ags',v,vs',h1,h2,h3,h5⟩=>by
  obtain ⟨as,h⟩:=ZM rs h5
  exact ⟨0::as,d,ags',v,vs',0,as,h1,h2,rfl,h3,h⟩
section
variable {K : PySem.W.Frag} {G : Hp} {δ : En} {σ : St}
theorem q8.len : ∀ {ars : List Ar} {ags : List Ag} {vs : List V} {as : List Addr},q8 K G δ σ ars ags vs as->as.length = ags.length /\ (mkS ags as).length = vs.length
 | [],_,_,_,h=>by obtain ⟨rfl,rfl,rfl⟩:=h; exact ⟨rfl,rfl⟩
 | .own j::r,_,_,_,h=>by
  obtain ⟨m,o,ags',vs',a,as',rfl,rfl,rfl,_,_,h⟩:=h
  obtain ⟨l1,l2⟩:=h.len
  exact ⟨by simp [l1],by simp [mkS,l2]⟩
 | .val _::r,_,_,_,h=>by
  obtain ⟨d,ags',v,vs',a,as',rfl,rfl,rfl,_,h⟩:=h
  obtain ⟨l1,l2⟩:=h.len
  exact ⟨by simp [l1],by simp [mkS,l2]⟩
theorem q8.pv : ∀ {ars : List Ar} {ags : List Ag} {vs : List V} {as : List Addr} {i : Nat} {m : Mo} {o : Option Addr},q8 K G δ σ ars ags vs as->(mkS ags as)[i]? = some (.pv m o)->
  ∃ a j o',o = some a /\ ars[i]? = some (.own j) /\ vs[i]? = some (.ref a) /\ δ[j]? = some (some (.pv m o')) /\ σ[j]? = some (some (.ref a))
 | [],_,_,_,i,m,o,h,e=>by obtain ⟨rfl,rfl,rfl⟩:=h; simp [mkS] at e
 | .own j::r,_,_,_,i,m,o,h,e=>by
  obtain ⟨m1,o1,ags',vs',a,as',rfl,rfl,rfl,h1,h2,h⟩:=h
  cases i with
  | zero=>
   simp only [mkS,List.getElem?_cons_zero] at e
   cases e
   exact ⟨a,j,o1,rfl,rfl,rfl,h1,h2⟩
  | succ i=>
   simp only [mkS,List.getElem?_cons_succ] at e
   exact h.pv e
 | .val _::r,_,_,_,i,m,o,h,e=>by
  obtain ⟨d,ags',v,vs',a,as',rfl,rfl,rfl,_,h⟩:=h
  cases i with
  | zero=>simp only [mkS,List.getElem?_cons_zero] at e; cases e
  | succ i=>
   simp only [mkS,List.getElem?_cons_succ] at e
   exact h.pv e
theorem q8.sh : ∀ {ars : List Ar} {ags : List Ag} {vs : List V} {as : List Addr} {i : Nat} {d : D},q8 K G δ σ ars ags vs as->(mkS ags as)[i]? = some (.sh d)->∃ v,vs[i]? = some v /\ Rep K G d v
 | [],_,_,_,i,d,h,e=>by obtain ⟨rfl,rfl,rfl⟩:=h; simp [mkS] at e
 | .own j::r,_,_,_,i,d,h,e=>by
  obtain ⟨m1,o1,ags',vs',a,as',rfl,rfl,rfl,h1,h2,h⟩:=h
  cases i with
  | zero=>simp only [mkS,List.getElem?_cons_zero] at e; cases e
  | succ i=>
   simp only [mkS,List.getElem?_cons_succ] at e
   exact h.sh e
 | .val _::r,_,_,_,i,d,h,e=>by
  obtain ⟨d1,ags',v,vs',a,as',rfl,rfl,rfl,h1,h⟩:=h
  cases i with
  | zero=>simp only [mkS,List.getElem?_cons_zero] at e; cases e; exact ⟨v,rfl,h1⟩
  | succ i=>
   simp only [mkS,List.getElem?_cons_succ] at e
   exact h.sh e
theorem q8.ob : ∀ {ars : List Ar} {ags : List Ag} {vs : List V} {as : List Addr} {i : Nat} {c : Ex},q8 K G δ σ ars ags vs as->(mkS ags as)[i]? = some (.ob c)->False
 | [],_,_,_,i,c,h,e=>by obtain ⟨rfl,rfl,rfl⟩:=h; simp [mkS] at e
 | .own j::r,_,_,_,i,c,h,e=>by
  obtain ⟨m1,o1,ags',vs',a,as',rfl,rfl,rfl,h1,h2,h⟩:=h
  cases i with
  | zero=>simp only [mkS,List.getElem?_cons_zero] at e; cases e
  | succ i=>
   simp only [mkS,List.getElem?_cons_succ] at e
   exact h.ob e
 | .val _::r,_,_,_,i,c,h,e=>by
  obtain ⟨d1,ags',v,vs',a,as',rfl,rfl,rfl,h1,h⟩:=h
  cases i with
  | zero=>simp only [mkS,List.getElem?_cons_zero] at e; cases e
  | succ i=>
   simp only [mkS,List.getElem?_cons_succ] at e
   exact h.ob e
theorem q8.tk : ∀ {ars : List Ar} {ags : List Ag} {vs : List V} {as : List Addr} {i : Nat} {P : Program} {w : World} {c : List (List Key)},q8 K G δ σ ars ags vs as->(mkS ags as)[i]? = some (.tk P w c)->False
 | [],_,_,_,i,P,w,c,h,e=>by obtain ⟨rfl,rfl,rfl⟩:=h; simp [mkS] at e
 | .own j::r,_,_,_,i,P,w,c,h,e=>by
  obtain ⟨m1,o1,ags',vs',a,as',rfl,rfl,rfl,h1,h2,h⟩:=h
  cases i with
  | zero=>simp only [mkS,List.getElem?_cons_zero] at e; cases e
  | succ i=>
   simp only [mkS,List.getElem?_cons_succ] at e
   exact h.tk e
 | .val _::r,_,_,_,i,P,w,c,h,e=>by
  obtain ⟨d1,ags',v,vs',a,as',rfl,rfl,rfl,h1,h⟩:=h
  cases i with
  | zero=>simp only [mkS,List.getElem?_cons_zero] at e; cases e
  | succ i=>
   simp only [mkS,List.getElem?_cons_succ] at e
   exact h.tk e
theorem tt : ∀ {ars : List Ar} {i j : Nat},ars[i]? = some (.own j)->j ∈ xr ars
 | [],i,j,e=>by simp at e
 | .own k::r,0,j,e=>by simp at e; subst e; exact List.mem_cons_self
 | .own k::r,i + 1,j,e=>List.mem_cons_of_mem _ (tt (ars:=r) (i:=i) (by simpa using e))
 | .val f::r,0,j,e=>by simp at e
 | .val f::r,i + 1,j,e=>tt (ars:=r) (i:=i) (by simpa using e)
theorem ZN : ∀ {ars : List Ar} {i i' j : Nat},(xr ars).Nodup->ars[i]? = some (.own j)->ars[i']? = some (.own j)->i = i'
 | [],i,i',j,_,e,_=>by simp at e
 | .own k::r,i,i',j,hn,e,e'=>by
  have hn':=List.nodup_cons.mp hn
  cases i with
  | zero=>
   cases i' with
   | zero=>rfl
   | succ i'=>
    simp at e; subst e
    exact absurd (tt (ars:=r) (i:=i') (by simpa using e')) hn'.1
  | succ i=>
   cases i' with
   | zero=>
    simp at e'; subst e'
    exact absurd (tt (ars:=r) (i:=i) (by simpa using e)) hn'.1
   | succ i'=>rw [ZN (ars:=r) (i:=i) (i':=i') hn'.2 (by simpa using e) (by simpa using e')]
 | .val f::r,i,i',j,hn,e,e'=>by
  cases i with
  | zero=>simp at e
  | succ i=>
   cases i' with
   | zero=>simp at e'
   | succ i'=>rw [ZN (ars:=r) (i:=i) (i':=i') hn (by simpa using e) (by simpa using e')]
theorem q8.owns : ∀ {ars : List Ar} {ags : List Ag} {vs : List V} {as : List Addr} {j : Nat},q8 K G δ σ ars ags vs as->j ∈ xr ars->∃ m o,δ[j]? = some (some (.pv m o))
 | [],_,_,_,j,h,e=>by cases e
 | .own k::r,_,_,_,j,h,e=>by
  obtain ⟨m1,o1,ags',vs',a,as',rfl,rfl,rfl,h1,h2,h⟩:=h
  rcases List.mem_cons.mp e with rfl | e
  ·exact ⟨m1,o1,h1⟩
  ·exact h.owns e
 | .val _::r,_,_,_,j,h,e=>by
  obtain ⟨d1,ags',v,vs',a,as',rfl,rfl,rfl,h1,h⟩:=h
  exact h.owns e
theorem q8.look : ∀ {ars : List Ar} {ags : List Ag} {vs : List V} {as : List Addr} {ms : List (Option Mo)} {res : En} {j : Nat} {m' : Mo},q8 K G δ σ ars ags vs as->km ags as ms res->(xQ ars ms).lookup j = some m'->
  ∃ (i : Nat) (a : Addr) (m : Mo) (o : Option Addr),res[i]? = some (some (Sl.pv m' (some a))) /\ δ[j]? = some (some (.pv m o)) /\ σ[j]? = some (some (.ref a))
 | [],_,_,_,ms,res,j,m',h,f,e=>by simp [xQ] at e
 | .own k::r,_,_,_,ms,res,j,m',h,f,e=>by
  obtain ⟨m1,o1,ags',vs',a,as',rfl,rfl,rfl,h1,h2,h⟩:=h
  simp only [km] at f
  obtain ⟨a2,as2,m2,ms2,res2,e1,rfl,rfl,f⟩:=f
  cases e1
  simp only [xQ,List.lookup_cons] at e
  by_cases hj : j = k
  ·subst hj
   simp at e
   subst e
   exact ⟨0,a,m1,o1,rfl,h1,h2⟩
  ·rw [show (j == k) = false by simpa using hj] at e
   obtain ⟨i,a',m,o,q1,q2,q3⟩:=h.look f e
   exact ⟨i + 1,a',m,o,by simpa using q1,q2,q3⟩
 | .val _::r,_,_,_,ms,res,j,m',h,f,e=>by
  obtain ⟨d1,ags',v,vs',a,as',rfl,rfl,rfl,h1,h⟩:=h
  simp only [km] at f
  obtain ⟨a2,as2,ms2,x,res2,e1,rfl,rfl,f⟩:=f
  cases e1
  simp only [xQ] at e
  obtain ⟨i,a',m,o,q1,q2,q3⟩:=h.look f e
  exact ⟨i + 1,a',m,o,by simpa using q1,q2,q3⟩
theorem q8.has : ∀ {ars : List Ar} {ags : List Ag} {vs : List V} {as : List Addr} {ms : List (Option Mo)} {res : En} {j : Nat},q8 K G δ σ ars ags vs as->km ags as ms res->j ∈ xr ars->∃ m',(xQ ars ms).lookup j = some m'
 | [],_,_,_,ms,res,j,h,f,e=>by cases e
 | .own k::r,_,_,_,ms,res,j,h,f,e=>by
  obtain ⟨m1,o1,ags',vs',a,as',rfl,rfl,rfl,h1,h2,h⟩:=h
  simp only [km] at f
  obtain ⟨a2,as2,m2,ms2,res2,e1,rfl,rfl,f⟩:=f
  cases e1
  simp only [xQ,List.lookup_cons]
  by_cases hj : j = k
  ·subst hj; exact ⟨m2,by simp⟩
  ·rw [show (j == k) = false by simpa using hj]
   rcases List.mem_cons.mp e with rfl | e
   ·exact absurd rfl hj
   ·exact h.has f e
 | .val _::r,_,_,_,ms,res,j,h,f,e=>by
  obtain ⟨d1,ags',v,vs',a,as',rfl,rfl,rfl,h1,h⟩:=h
  simp only [km] at f
  obtain ⟨a2,as2,ms2,x,res2,e1,rfl,rfl,f⟩:=f
  cases e1
  simp only [xQ]
  exact h.has f e
end
open Classical in
noncomputable def yF (σ : St) (js : List Nat) (H : Hp) : Hp:=fun b=>if ∃ j ∈ js,σ[j]? = some (some (V.ref b)) then none else H b
theorem v4 {σ : St} {js : List Nat} {H : Hp} {a : Addr} {j : Nat} (hj : j ∈ js) (e : σ[j]? = some (some (V.ref a))) : yF σ js H a = none:=by
 unfold yF; rw [if_pos ⟨j,hj,e⟩]
theorem yf {σ : St} {js : List Nat} {H : Hp} {a : Addr} (h : ¬ ∃ j ∈ js,σ[j]? = some (some (V.ref a))) : yF σ js H a = H a:=by
 unfold yF; rw [if_neg h]
theorem v5 {σ : St} {js : List Nat} {H : Hp} : zW (yF σ js H) H:=fun a o e=>by
 unfold yF at e
 split at e
 ·cases e
 ·exact e
theorem uO {q : Option Mo} {x : Option Sl} {m : Mo} {o : Option Addr} (e : UK q x = some (.pv m o)) : ∃ m0,x = some (.pv m0 o):=by
 unfold UK at e
 split at e
 ·cases e; exact ⟨_,rfl⟩
 ·exact ⟨m,e⟩
section
variable {X : Cx} {e : Expr} {es : List Expr} {pos p : Pos} {ars : List Ar}
theorem UL {k : Nat} {x : Str} {ps : List Str} {M : List Sl->Option (Rs × En)} (F : YD X.prog X.w X.K X.mg X.base k x ps M) (hr : Room k X.A) (ha : PAM X (e::es) ars) (hnd : (xr ars).Nodup:=by decide) (hg : Gl X x:=by rfl)
  (hdb : (x == ("__debug__" : Str)) = false:=by decide) (he : starEach (e::es) X.env = (false,eval e X.env)::starEach es X.env:=by rfl) (hpl : (backTo pos (starEach es X.env)).any (·.1) = false:=by rfl) :
  PX X (.Call (.Name x p) (e::es) [] pos) (kn M ars):=by
 obtain ⟨f,fd,F,hb,hk,hm⟩:=F
 obtain ⟨ta,pa,ka⟩:=ha
 refine ⟨_,Zy F hr hg hm hk hb .nil QG pa hdb he hpl,fun B G H δ σ d δ' Q sG sB rs0 ef q=>?_⟩
 unfold kn at ef
 obtain ⟨ags,e1,ef⟩:=obE ef
 obtain ⟨⟨r,ms⟩,e2,ef⟩:=obE ef
 refine ka B G H δ σ ags _ sG rs0 e1 fun vs G1 H1 g1 ar=>?_
 rw [List.append_nil]
 have rs:=rs0.grow g1
 have sB1 : zW B H1:=sB.trans g1.h
 obtain ⟨as,aa⟩:=ZM rs ar
 obtain ⟨l1,l2⟩:=aa.len
 cases r with
 | fr m=>cases ef
 | sh d'=>
  cases ef
  obtain ⟨res,em,fit⟩:=WS e2 as l1
  refine ⟨yF σ (xr ars) H1,G1,mkS ags as,.sh d,res,g1.s,v5,?_,em,?_⟩
  ·refine ⟨by simp [l2],fun i x e=>?_,fun i j x y o o' hij e1 e2=>?_⟩
   ·rw [List.getElem?_map] at e
    obtain ⟨x',ex,e⟩:=omE e
    cases e
    cases x with
    | ob c=>exact (aa.ob ex).elim
    | tk _ _ _=>exact (aa.tk ex).elim
    | sh d=>
     obtain ⟨v,q1,q2⟩:=aa.sh ex
     exact ⟨v,by rw [List.getElem?_map,q1]; rfl,q2⟩
    | pv m o=>
     obtain ⟨a,j,o',rfl,q1,q2,q3,q4⟩:=aa.pv ex
     obtain ⟨v,w1,a2,us,rfl,w2,w3,w4,w5,w6,w7⟩:=rs.at_ j _ q3
     rw [q4] at w1
     cases w1
     exact ⟨.ref a,by rw [List.getElem?_map,q2]; rfl,a,us,rfl,v4 (tt q1) q4,w3,w4,w5,w6,fun b z=>by cases z; rfl⟩
   ·rw [List.getElem?_map] at e1 e2
    obtain ⟨x',ex,e1⟩:=omE e1
    obtain ⟨y',ey,e2⟩:=omE e2
    cases e1
    cases e2
    obtain ⟨a,j1,o1,rfl,q1,q2,q3,q4⟩:=aa.pv ex
    obtain ⟨b,j2,o2,rfl,p1,p2,p3,p4⟩:=aa.pv ey
    rw [List.getElem?_map,List.getElem?_map,q2,p2]
    intro z
    have hjj : j1 ≠ j2:=fun z=>hij (ZN hnd q1 (z ▸ p1))
    refine rs.ap j1 j2 _ _ _ _ hjj q3 p3 ?_
    rw [q4,p4]
    exact Option.some.inj z ▸ rfl
  ·intro v σ' G' H' st rs' rv
   have notOwn : ∀ a o,B a = some o->¬ ∃ j ∈ xr ars,σ[j]? = some (some (V.ref a)):=fun a o eB ⟨j,hj,ej⟩=>by
    obtain ⟨m,o',ed⟩:=aa.owns hj
    obtain ⟨v,w1,a2,us,rfl,w2,_⟩:=rs.at_ j _ ed
    rw [ej] at w1
    cases w1
    rw [w2] at eB
    cases eB
   have stp : Stp B G1 G' H':=⟨st.g,st.s,fun a o eB=>st.b a o (by rw [yf (notOwn a o eB)]; exact sB1 a o eB),fun a o eB n=>st.n a o (by rw [yf (notOwn a o eB)]; exact sB1 a o eB) n⟩
   refine q v G' H' ((g1.stp sB).trans stp) ⟨by rw [tq]; exact rs.len,fun j x ej=>?_,fun i j x y o o' hij e1 e2=>?_⟩ rv
   ·rw [wg,Nat.zero_add] at ej
    obtain ⟨y,ey,ex⟩:=omE ej
    cases eq : (xQ ars ms).lookup j with
    | some m'=>
     rw [eq] at ex
     obtain ⟨i,a,m,o,q1,q2,q3⟩:=aa.look fit eq
     rw [q2] at ey
     cases ey
     cases ex
     obtain ⟨v1,w1,a1,us1,rfl,w2,w3,w4,w5,w6,w7⟩:=rs.at_ j _ q2
     rw [q3] at w1
     cases w1
     obtain ⟨v2,_,a2,us2,rfl,u2,u3,u4,u5,u6,u7⟩:=rs'.at_ i _ q1
     obtain rfl:=u7 a rfl
     exact ⟨.ref a,q3,a,us2,rfl,w2,u3,u4,u5,u6,w7⟩
    | none=>
     rw [eq] at ex
     have ex : y = some x:=ex
     subst ex
     obtain ⟨v1,w1,w2⟩:=rs.at_ j _ ey
     refine ⟨v1,w1,?_⟩
     cases x with
     | sh d=>exact Rep.mono st.g w2
     | ob c=>exact TC.mono st.g w2
     | tk P w ts=>
      refine Ue.mono w2 st.g fun a φ ev e _ n=>?_
      have hno : ¬ ∃ j' ∈ xr ars,σ[j']? = some (some (V.ref a)):=fun ⟨j',hj',ej'⟩=>by
       obtain ⟨m2,o2,ed⟩:=aa.owns hj'
       obtain ⟨_,z1,a1,us1,rfl,_,_,z3,_⟩:=rs.at_ j' _ ed
       rw [ej'] at z1
       cases z1
       rw [z3] at e
       cases m2 <;> cases e
      have hB : yF σ (xr ars) H1 a = some (.ext φ):=by rw [yf hno]; exact e
      exact ⟨st.b a _ hB,st.n a _ hB n⟩
     | pv m o=>
      obtain ⟨a,us,rfl,w3,w4,w5,w6,w7,w8⟩:=w2
      have hno : ¬ ∃ j' ∈ xr ars,σ[j']? = some (some (V.ref a)):=fun ⟨j',hj',ej'⟩=>by
       have hne : j' ≠ j:=fun z=>by
        subst z
        obtain ⟨m',em'⟩:=aa.has fit hj'
        rw [eq] at em'
        cases em'
       obtain ⟨m2,o2,ed⟩:=aa.owns hj'
       exact rs.ap j' j _ _ _ _ hne ed ey (ej'.trans w1.symm)
      have hB : yF σ (xr ars) H1 a = some (m.ho us):=by rw [yf hno]; exact w5
      exact ⟨a,us,rfl,w3,st.n a _ hB w4,st.b a _ hB,w6,w7.mono st.g,w8⟩
   ·rw [wg,Nat.zero_add] at e1 e2
    obtain ⟨x1,f1,e1⟩:=omE e1
    obtain ⟨y1,f2,e2⟩:=omE e2
    obtain ⟨m1,rfl⟩:=uO e1
    obtain ⟨m2,rfl⟩:=uO e2
    exact rs.ap i j m1 m2 _ _ hij f1 f2
end
theorem RepS.back {K : PySem.W.Frag} {B G H G' H' : Hp} {δ : En} {σ : St} (rs : RepS K B G H δ σ) (sB : zW B H) {js : List Nat} (own : ∀ j ∈ js,∃ m o,δ[j]? = some (some (.pv m o))) {q : Nat->Option Mo}
  (hq' : ∀ j ∈ js,∃ m',q j = some m') (st : Stp (yF σ js H) G G' H')
  (new : ∀ j m',q j = some m'->∃ m o a us,δ[j]? = some (some (.pv m o)) /\ σ[j]? = some (some (.ref a)) /\ G' a = none /\ H' a = some (m'.ho us) /\ m'.ok /\ RepL K G' m'.vals us) : Stp B G G' H' /\ RepS K B G' H' (q0 q 0 δ) σ:=by
 have notOwn : ∀ a o,B a = some o->¬ ∃ j ∈ js,σ[j]? = some (some (V.ref a)):=fun a o eB ⟨j,hj,ej⟩=>by
  obtain ⟨m,o',ed⟩:=own j hj
  obtain ⟨v,w1,a2,us,rfl,w2,_⟩:=rs.at_ j _ ed
  rw [ej] at w1
  cases w1
  rw [w2] at eB
  cases eB
 refine ⟨⟨st.g,st.s,fun a o eB=>st.b a o (by rw [yf (notOwn a o eB)]; exact sB a o eB),fun a o eB n=>st.n a o (by rw [yf (notOwn a o eB)]; exact sB a o eB) n⟩,⟨by rw [tq]; exact rs.len,fun j x ej=>?_,fun i j x y o o' hij e1 e2=>?_⟩⟩
 ·rw [wg,Nat.zero_add] at ej
  obtain ⟨y,ey,ex⟩:=omE ej
  cases eq : q j with
  | some m'=>
   rw [eq] at ex
   obtain ⟨m,o,a,us2,q2,q3,u3,u4,u5,u6⟩:=new j m' eq
   rw [q2] at ey
   cases ey
   cases ex
   obtain ⟨v1,w1,a1,us1,rfl,w2,w3,w4,w5,w6,w7⟩:=rs.at_ j _ q2
   rw [q3] at w1
   cases w1
   exact ⟨.ref a,q3,a,us2,rfl,w2,u3,u4,u5,u6,w7⟩
  | none=>
   rw [eq] at ex
   have ex : y = some x:=ex
   subst ex
   obtain ⟨v1,w1,w2⟩:=rs.at_ j _ ey
   refine ⟨v1,w1,?_⟩
   cases x with
   | sh d=>exact Rep.mono st.g w2
   | ob c=>exact TC.mono st.g w2
   | tk P w ts=>
    refine Ue.mono w2 st.g fun a φ ev e _ n=>?_
    have hno : ¬ ∃ j' ∈ js,σ[j']? = some (some (V.ref a)):=fun ⟨j',hj',ej'⟩=>by
     obtain ⟨m2,o2,ed⟩:=own j' hj'
     obtain ⟨_,z1,a1,us1,rfl,_,_,z3,_⟩:=rs.at_ j' _ ed
     rw [ej'] at z1
     cases z1
     rw [z3] at e
     cases m2 <;> cases e
    have hB : yF σ js H a = some (.ext φ):=by rw [yf hno]; exact e
    exact ⟨st.b a _ hB,st.n a _ hB n⟩
   | pv m o=>
    obtain ⟨a,us,rfl,w3,w4,w5,w6,w7,w8⟩:=w2
    have hno : ¬ ∃ j' ∈ js,σ[j']? = some (some (V.ref a)):=fun ⟨j',hj',ej'⟩=>by
     have hne : j' ≠ j:=fun z=>by
      subst z
      obtain ⟨m',em'⟩:=hq' j' hj'
      rw [eq] at em'
      cases em'
     obtain ⟨m2,o2,ed⟩:=own j' hj'
     exact rs.ap j' j _ _ _ _ hne ed ey (ej'.trans w1.symm)
    have hB : yF σ js H a = some (m.ho us):=by rw [yf hno]; exact w5
    exact ⟨a,us,rfl,w3,st.n a _ hB w4,st.b a _ hB,w6,w7.mono st.g,w8⟩
 ·rw [wg,Nat.zero_add] at e1 e2
  obtain ⟨x1,f1,e1⟩:=omE e1
  obtain ⟨y1,f2,e2⟩:=omE e2
  obtain ⟨m1,rfl⟩:=uO e1
  obtain ⟨m2,rfl⟩:=uO e2
  exact rs.ap i j m1 m2 _ _ hij f1 f2
def zdc (X : Cx) (es : List Expr) (fa : En->Option (List D × En)) : Prop:=∃ t,PA X es t /\ ∀ (B G H : Hp) (δ : En) (σ : St) (ds : List D) (δ' : En) (Q : List V->Hp->Prop),zW G H->zW B H->RepS X.K B G H δ σ->fa δ = some (ds,δ')->
 (∀ vs G' H',Stp B G G' H'->RepS X.K B G' H' δ' σ->tX X.K G' H' ds vs->Q vs H')->t σ H Q
def PAX (X : Cx) (es : List Expr) (fa : En->Option (List D × En)) : Prop:=∃ t,PA X es t /\ ∀ (B G H : Hp) (δ : En) (σ : St) (ds : List D) (δ' : En) (Q : List V->Hp->Prop),zW G H->zW B H->RepS X.K B G H δ σ->fa δ = some (ds,δ')->
 (∀ vs G' H',Stp B G G' H'->RepS X.K B G' H' δ' σ->RepL X.K G' ds vs->Q vs H')->t σ H Q
section
variable {X : Cx} {e : Expr} {es : List Expr} {pos p : Pos}
@[simp] def Q5 (f : FX) (g : En->Option (List D)) : En->Option (List D × En):=fun δ=>(f δ).bind fun r=>(g r.2).bind fun ds=>some (r.1::ds,r.2)
theorem zcD {f : FX} {g : En->Option (List D)} (h : PX X e f) (hr : PAB X es g) (hs : starEach (e::es) X.env = (false,eval e X.env)::starEach es X.env:=by rfl) : zdc X (e::es) (Q5 f g):=by
 obtain ⟨t,pt,k⟩:=h
 obtain ⟨u,pu,ku⟩:=hr
 refine ⟨_,ya pt pu hs,fun B G H δ σ ds δ' Q sG sB rs ef q=>?_⟩
 unfold Q5 at ef
 obtain ⟨⟨d,δ1⟩,e1,ef⟩:=obE ef
 obtain ⟨ds1,e2,ef⟩:=obE ef
 cases ef
 exact k B G H δ σ d δ1 _ sG sB rs e1 fun v G1 H1 s1 rs1 r1=>ku B G1 H1 δ1 σ ds1 _ s1.s rs1 e2 fun vs G2 H2 g2 r2=>q _ G2 H2 (s1.trans (g2.stp s1.b)) (rs1.grow g2) ⟨v,vs,rfl,.inl (r1.mono g2.g),r2⟩
@[simp] def xNil : En->Option (List D × En):=fun δ=>some ([],δ)
@[simp] def kq (f : FX) (g : En->Option (List D × En)) : En->Option (List D × En):=fun δ=>(f δ).bind fun r=>(g r.2).bind fun rs=>some (r.1::rs.1,rs.2)
theorem WU : PAX X [] xNil:=⟨_,yJ,fun B G H δ σ ds δ' Q sG sB rs ef q=>by cases ef; exact q _ G H (Stp.refl sG sB) rs (by simp [RepL])⟩
theorem uP {f : FX} {g : En->Option (List D × En)} (h : PX X e f) (hr : PAX X es g) (hs : starEach (e::es) X.env = (false,eval e X.env)::starEach es X.env:=by rfl) : PAX X (e::es) (kq f g):=by
 obtain ⟨t,pt,k⟩:=h
 obtain ⟨u,pu,ku⟩:=hr
 refine ⟨_,ya pt pu hs,fun B G H δ σ ds δ' Q sG sB rs ef q=>?_⟩
 unfold kq at ef
 obtain ⟨⟨d,δ1⟩,e1,ef⟩:=obE ef
 obtain ⟨⟨ds1,δ2⟩,e2,ef⟩:=obE ef
 cases ef
 exact k B G H δ σ d δ1 _ sG sB rs e1 fun v G1 H1 s1 rs1 r1=>ku B G1 H1 δ1 σ ds1 δ2 _ s1.s s1.b rs1 e2 fun vs G2 H2 s2 rs2 r2=>q _ G2 H2 (s1.trans s2) rs2 (by simp only [RepL]; exact ⟨v,vs,rfl,r1.mono s2.g,r2⟩)
@[simp] def J1 (g : En->Option (List D × En)) : FX:=fun δ=>(g δ).bind fun r=>if r.1.length <= sizeLine then some (.tup r.1,r.2) else none
theorem WV {B G G' H' : Hp} {a : Addr} {o : HO} (s : Stp B G G' H') (n : H' a = none) : Stp B G (upd G' a o) (upd H' a o) where
 g:=s.g.trans (yi _ (s.s.free n))
 s:=s.s.upd o
 b:=s.b.trans (yi _ n)
 n:=fun b u eB nG=>by
  have hb : b ≠ a:=fun z=>by subst z; rw [s.b _ _ eB] at n; cases n
  rw [zR hb]
  exact s.n b u eB nG
theorem RepS.new {K : PySem.W.Frag} {B G H : Hp} {δ : En} {σ : St} (rs : RepS K B G H δ σ) (sG : zW G H) {a : Addr} (n : H a = none) (o : HO) : RepS K B (L2.upd G a o) (L2.upd H a o) δ σ:=by
 refine rs.grow ⟨yi _ (sG.free n),yi _ n,sG.upd o,fun b u e nG=>?_⟩
 have hb : b ≠ a:=fun z=>by subst z; rw [e] at n; cases n
 rw [zR hb]
 exact nG
theorem TN {x1} {g : En->Option (List D × En)} (ha : PAX X es g) : PX X (.Tuple es x1 pos) (J1 g):=by
 obtain ⟨t,pt,k1⟩:=ha
 refine ⟨_,Tv pt,fun B G H δ σ d δ' Q sG sB rs ef q=>?_⟩
 unfold J1 at ef
 obtain ⟨⟨ds,δ1⟩,e1,ef⟩:=obE ef
 split at ef
 ·rename_i hl
  cases ef
  refine k1 B G H δ σ ds δ1 _ sG sB rs e1 fun vs G1 H1 s1 rs1 r1=>⟨by rw [<- r1.length]; exact hl,fun p hp=>?_⟩
  exact q _ _ _ (WV s1 hp) (rs1.new s1.s hp _) (vJ (s1.s.free hp) r1)
 ·cases ef
@[simp] def tu (M : List D->Option Rs) (g : En->Option (List D × En)) : FX:=fun δ=>(g δ).bind fun r=>(M r.1).bind fun y=>match y with | .sh d=>if qZ d = true then some (d,r.2) else none | _=>none
theorem q9 {k : Nat} {x : Str} {ps : List Str} {M : List D->Option Rs} {g : En->Option (List D × En)} (F : zx X.prog X.w X.K X.mg X.base k x ps M) (hr : Room k X.A) (ha : zdc X (e::es) g) (hg : Gl X x:=by rfl)
  (hdb : (x == ("__debug__" : Str)) = false:=by decide) (he : starEach (e::es) X.env = (false,eval e X.env)::starEach es X.env:=by rfl) (hpl : (backTo pos (starEach es X.env)).any (·.1) = false:=by rfl) :
  PX X (.Call (.Name x p) (e::es) [] pos) (tu M g):=by
 obtain ⟨f,fd,F,hb,hk,hm⟩:=F
 obtain ⟨ta,pa,ka⟩:=ha
 refine ⟨_,Zy F hr hg hm hk hb .nil QG pa hdb he hpl,fun B G H δ σ d δ' Q sG sB rs ef q=>?_⟩
 unfold tu at ef
 obtain ⟨⟨ds,δ1⟩,e1,ef⟩:=obE ef
 obtain ⟨y,e2,ef⟩:=obE ef
 cases y with
 | fr m=>cases ef
 | sh d0=>
  dsimp only at ef
  split at ef
  ·rename_i hmut
   cases ef
   refine ka B G H δ σ ds δ' _ sG sB rs e1 fun vs G1 H1 s1 rs1 r1=>?_
   rw [List.append_nil]
   refine ⟨xa G1 H1,ds,.sh d,kj s1.s,qi s1.s r1,e2,?_⟩
   intro v G' H' g2 r2
   have g3:=WO s1.s g2
   exact q v _ H' (s1.trans (g3.stp s1.b)) (rs1.grow g3) (ki WQ hmut r2)
  ·cases ef
@[simp] def kx (i : Nat) : FX:=fun δ=>match δ[i]? with | some (some (.pv (.lst (d::ds)) o))=>some (d,δ.set i (some (.pv (.lst ds) o))) | _=>none
theorem ja (i : Nat) {x : Str} {p p1 p3 : Pos} {kd : Nat} (hN : X.N[i]? = some x:=by rfl) (hvi : Vis X.env.scope x:=by first | exact Or.inl rfl | exact Or.inr (Or.inl rfl) | exact Or.inr (Or.inr rfl))
  (hb : ∀ {tx : TE},PE X (.Name x p) tx->PE X (.Call (.Attribute (.Name x p) "pop" p1) [.Constant (.int 0) kd p3] [] pos) (tBM X.K "list" rPopAt tx (qO (tC (.int 0)) tNil)):=by
   intro tx hx; exact jV PySem.F.plainAttrs_list PySem.F.slot_list_pop PySem.F.type_list_pop Ur hx (ya Tr yJ))
  (hd : (x == ("__debug__" : Str)) = false:=by decide) (hcd : (x == ("__classdict__" : Str)) = false:=by decide) :
  PX X (.Call (.Attribute (.Name x p) "pop" p1) [.Constant (.int 0) kd p3] [] pos) (kx i):=by
 refine ⟨_,hb (wW hN hvi hd hcd),fun B G H δ σ d δ' Q sG sB rs ef q=>?_⟩
 unfold kx at ef
 split at ef
 ·rename_i d0 ds o em
  cases ef
  obtain ⟨v,h1,a,vs,rfl,h2,h3,h4,h5,h6,_⟩:=rs.at_ i _ em
  simp only [Mo.vals,RepL] at h6
  obtain ⟨v0,us,rfl,r0,rl⟩:=h6
  refine ⟨_,h1,.inl ⟨rfl,_,SqL.of h4⟩,?_⟩
  refine ⟨a,v0::us,0,0,v0,rfl,rfl,h4,by decide,by decide,?_,rfl,?_⟩
  ·simp [seqIndex?]
  ·exact q v0 G _ (qV sG sB h2 h3) (rs.upd (m':=.lst ds) (us:=us) em h1 h2 h3 True.intro rl) r0
 ·cases ef
end
def WW : Option (Option Sl)->Bool | some (some (.pv _ _))=>true | _=>false
def zdd (δc : En) (i : Nat) : Option Mo:=match δc[i]? with | some (some (.pv m _))=>some m | _=>none
def zb6 (j : Nat) : List Nat->Nat->Option Nat
 | [],_=>none
 | k::r,n=>if k = j then some n else zb6 j r (n + 1)
def WX (nl : Nat) (js : List Nat) (δc : En) : Nat->Option Mo:=fun j=>(zb6 j js 0).bind fun k=>zdd δc (nl + k)
def zde : Option (Option Sl)->Bool | some (some (.tk _ _ _))=>true | _=>false
def TQ (nl : Nat) (js : List Nat) (δ δc : En) : Bool:=(js.all fun j=>!WW δ[j]? || (WX nl js δc j).isSome) && js.all fun j=>!zde δ[j]?
def Q6 (nl : Nat) (js : List Nat) (δc δ : En) : En:=q0 (fun j=>if WW δ[j]? = true then WX nl js δc j else none) 0 δ
def jb (nl : Nat) (js : List Nat) (i : Nat) (g : FX) : List D->En->Option (List D × En)
 | [],δ=>some ([],δ)
 | x::xs,δ=>(g ((csD nl js δ).set i (some (.sh x)))).bind fun p=>if TQ nl js δ p.2 = true then (jb nl js i g xs (Q6 nl js p.2 δ)).bind fun r=>some (p.1::r.1,r.2) else none
theorem ky {nl : Nat} {js : List Nat} {i : Nat} {g : FX} : ∀ {xs : List D} {δ : En} {r : List D × En},jb nl js i g xs δ = some r->r.1.length = xs.length
 | [],δ,r,e=>by cases e; rfl
 | x::xs,δ,r,e=>by
  unfold jb at e
  obtain ⟨p,_,e⟩:=obE e
  split at e
  ·obtain ⟨r1,e1,e⟩:=obE e
   cases e
   have:=ky e1
   simp [this]
  ·cases e
@[simp] def Xq (nl : Nat) (js : List Nat) (i : Nat) (it : En->Option (List D)) (g : FX) : FX:=fun δ=>(it δ).bind fun xs=>if xs.length <= sizeLine then (jb nl js i g xs δ).map fun r=>(.lst r.1,r.2) else none
theorem kA {j : Nat} : ∀ {js : List Nat} {n k : Nat},zb6 j js n = some k->n <= k /\ js[k - n]? = some j
 | [],n,k,e=>by cases e
 | a::r,n,k,e=>by
  unfold zb6 at e
  split at e
  ·rename_i h; cases e; subst h; exact ⟨Nat.le_refl _,by simp⟩
  ·obtain ⟨h1,h2⟩:=kA e
   refine ⟨by omega,?_⟩
   rw [show k - n = (k - (n + 1)) + 1 by omega,List.getElem?_cons_succ]
   exact h2
section
variable {X : Cx} {e : Expr} {es : List Expr} {pos p : Pos}
def zdf (K : PySem.W.Frag) (f : FX) : TE:=fun σ H Q=>∃ B G δ d δ',zW G H /\ zW B H /\ RepS K B G H δ σ /\ f δ = some (d,δ') /\ ∀ v G' H',Stp B G G' H'->RepS K B G' H' δ' σ->Rep K G' d v->Q v H'
theorem PX.canon {f : FX} (h : PX X e f) : PE X e (zdf X.K f):=by
 obtain ⟨t,pt,k⟩:=h
 intro pins s σ H Q I ⟨B,G,δ,d,δ',sG,sB,rs,ef,q⟩
 exact pt pins s σ H Q I (k B G H δ σ d δ' Q sG sB rs ef q)
theorem ZO {K : PySem.W.Frag} {wi : TI} {it : En->Option (List D)} {g : FX} {nl i : Nat} {js : List Nat} {ti : TT} (hin : i < nl)
  (kw : ∀ (B G H : Hp) (δ : En) (σ : St) (xs : List D) (R : It->Hp->Prop),zW G H->RepS K B G H δ σ->it δ = some xs->(∀ J G' H',Grow G H G' H'->Wk K J G' xs->R J H')->wi σ H R)
  (kt : ∀ (σ : St) (H : Hp) (Q : Bool->Hp->Prop),Q true H->ti σ H Q) (hjs : js.Nodup) :
  TL K (Wr wi (vG nl js) (jK i) ti (zdf K g)) (Xq nl js i it g):=fun B G H δ σ d δe Q sG sB rs e k=>by
 unfold Xq at e
 obtain ⟨xs,e1,e⟩:=obE e
 split at e
 ·rename_i hl
  obtain ⟨⟨zs,δz⟩,e2,e⟩:=omE e
  cases e
  refine kw B G H δ σ xs _ sG rs e1 fun J G1 H1 g1 wk=>?_
  refine ⟨fun n m ys H'=>∃ G' δ' ws us,m = xs.length - n /\ n <= xs.length /\ Stp B G G' H' /\ zW G1 G' /\ RepS K B G' H' δ' σ /\ RepL K G' ws ys /\ zs = ws++us /\ jb nl js i g (xs.drop n) δ' = some (us,δz),
   ⟨_,G1,δ,[],zs,rfl,Nat.zero_le _,g1.stp sB,zW.refl _,rs.grow g1,by simp [RepL],rfl,by simpa using e2⟩,?_⟩
  rintro n m ys H' ⟨G',δ',ws,us,rfl,hn,gr,s1,rs',rl,rfl,ec⟩
  have hwl : (ws++us).length = xs.length:=ky e2
  refine ⟨by rw [<- rl.length]; rw [List.length_append] at hwl; omega,?_⟩
  by_cases hlt : n < xs.length
  ·right
   obtain ⟨go,yl⟩:=wk.go n xs[n] G' H' (by simp [hlt]) s1 gr.s
   rw [List.drop_eq_getElem_cons hlt] at ec
   unfold jb at ec
   obtain ⟨⟨y',δc⟩,ec1,ec⟩:=obE ec
   split at ec
   ·rename_i hok0
    obtain ⟨hok,hokT⟩:=Bool.and_eq_true _ _ ▸ (show ((js.all fun j=>!WW δ'[j]? || (WX nl js δc j).isSome) && js.all fun j=>!zde δ'[j]?) = true from hok0)
    obtain ⟨⟨us',δz'⟩,ec3,ec⟩:=obE ec
    cases ec
    refine ⟨go,fun x H2 y=>?_⟩
    obtain ⟨rfl,rx⟩:=yl x H2 y
    show ti ((vG nl js σ).set i (some x)) H2 _
    refine kt _ _ _ ?_
    rw [if_pos rfl]
    -- the objects that the block may change
    have hown : ∀ j ∈ js.filter (fun j=>WW δ'[j]?),∃ m o,δ'[j]? = some (some (.pv m o)):=fun j hj=>by
     have:=(List.mem_filter.mp hj).2
     unfold WW at this
     split at this
     ·rename_i m o em; exact ⟨m,o,em⟩
     ·cases this
    have rsc : RepS K (yF σ (js.filter fun j=>WW δ'[j]?) H2) G' H2 ((csD nl js δ').set i (some (.sh xs[n]))) ((vG nl js σ).set i (some x)):=by
     have r0:=(rs'.cs nl js hjs).set i rx
     refine ⟨r0.len,fun j z ez=>?_,r0.ap⟩
     obtain ⟨v,w1,w2⟩:=r0.at_ j z ez
     refine ⟨v,w1,?_⟩
     cases z with
     | sh d=>exact w2
     | ob c=>exact w2
     | tk P w ts=>
      rcases yM ez with ⟨_,e'⟩ | ⟨hji,e'⟩
      ·cases e'
      ·obtain ⟨j1,z1,ej1,ed1⟩:=WG e'
       have:=List.all_eq_true.mp hokT j1 (List.mem_of_getElem? ej1)
       rw [ed1] at this
       cases this
     | pv m o=>
      obtain ⟨a,us,rfl,w3,w4⟩:=w2
      refine ⟨a,us,rfl,?_,w4⟩
      rcases yM ez with ⟨_,e'⟩ | ⟨hji,e'⟩
      ·cases e'
      ·obtain ⟨j1,z1,ej1,ed1⟩:=WG e'
       obtain ⟨v1,u1,_⟩:=rs'.at_ j1 _ ed1
       have u2:=WH (l:=σ) z1 ej1 u1
       rw [List.getElem?_set_ne hji] at w1
       have : v1 = .ref a:=by
        have:=u2.symm.trans w1
        exact Option.some.inj (Option.some.inj this)
       subst this
       refine v4 (List.mem_filter.mpr ⟨List.mem_of_getElem? ej1,?_⟩) u1
       show WW δ'[j1]? = true
       rw [ed1]
       rfl
    refine ⟨yF σ (js.filter fun j=>WW δ'[j]?) H2,G',_,y',δc,gr.s,v5,rsc,ec1,fun v G4 H4 s4 rs4 r4=>?_⟩
    obtain ⟨st5,rs5⟩:=rs'.back (G':=G4) (H':=H4) gr.b hown (q:=fun j=>if WW δ'[j]? = true then WX nl js δc j else none) (fun j hj=>by
      obtain ⟨hj1,hj2⟩:=List.mem_filter.mp hj
      have h3:=List.all_eq_true.mp hok j hj1
      rw [show WW δ'[j]? = true from hj2,Bool.not_true,Bool.false_or] at h3
      obtain ⟨m',em⟩:=Option.isSome_iff_exists.mp h3
      exact ⟨m',by rw [if_pos hj2]; exact em⟩) s4 (fun j m' eq=>by
      split at eq
      ·rename_i hpv
       unfold WX at eq
       obtain ⟨k1,ek,em⟩:=obE eq
       obtain ⟨_,hk1⟩:=kA ek
       rw [Nat.sub_zero] at hk1
       unfold zdd at em
       split at em
       ·rename_i m2 o2 em2
        cases em
        obtain ⟨v2,w1,a2,us2,rfl,w2,w3,w4,w5,w6,w7⟩:=rs4.at_ _ _ em2
        have hpv':=hpv
        unfold WW at hpv'
        split at hpv'
        ·rename_i m0 o0 em0
         obtain ⟨v0,u1,_⟩:=rs'.at_ j _ em0
         have u2:=WH (l:=σ) (nl:=nl) (js:=js) (i:=nl + k1) (j:=j) (by omega) (by rw [Nat.add_sub_cancel_left]; exact hk1) u1
         rw [List.getElem?_set_ne (by omega)] at w1
         have : v0 = .ref a2:=by
          have:=u2.symm.trans w1
          exact Option.some.inj (Option.some.inj this)
         subst this
         exact ⟨m0,o0,a2,us2,em0,u1,w3,w4,w5,w6⟩
        ·cases hpv'
       ·cases em
      ·cases eq)
    exact ⟨xs.length - (n + 1),by omega,G4,_,ws++[y'],us',rfl,hlt,gr.trans st5,s1.trans st5.g,rs5,(rl.mono st5.g).snoc r4,by simp,ec3⟩
   ·cases ec
  ·left
   have hnn : n = xs.length:=by omega
   subst hnn
   rw [List.drop_of_length_le (Nat.le_refl _)] at ec
   cases ec
   refine ⟨wk.stop G' H' s1 gr.s,fun p hp=>?_⟩
   rw [List.append_nil] at k
   exact k _ _ _ (WV gr hp) (rs'.new gr.s hp _) (Ww (gr.s.free hp) rl)
 ·cases e
end
section
variable {X : Cx} {e : Expr} {es : List Expr} {pos p : Pos}
theorem UM {N : List Str} {nl i : Nat} {js : List Nat} {scope : Scope} {cl : List (Str × Addr)} {elt iter : Expr} {x : Str} {px pos : Pos} {it : En->Option (List D)} {g : FX}
  (hc : X.calm = true) (ok : CompOk X N nl js scope cl) (hi : PID X (.Name x px) iter it) (hin : i < nl) (hNd : N.Nodup) (hix : N[i]? = some x) (hx : scope.names.lookup x = some .local) (hjs : js.Nodup)
  (he : ∀ C s₀ H₀ ex,PX (z9 X N scope cl C s₀ H₀ ex) elt g) (hs : ∀ x,foldedSetIterable iter X.env x = pure x:=by intro _; rfl) :
  PX X (.ListComp elt [⟨.Name x px,iter,[],0⟩] scope pos) (Xq nl js i it g):=by
 obtain ⟨wi,pw,kw⟩:=hi
 exact ⟨_,Ws hc ok pw (vI hin) (fun C s₀ H₀ ex=>qN hNd hix (.inl (lookup_relabel_local hx)) (.inr (lookup_relabel_local hx))) (fun _ _ _ _=>Yr) (fun C s₀ H₀ ex=>(he C s₀ H₀ ex).canon) hs,
  ZO hin kw (fun σ H Q h=>h) hjs⟩
@[simp] def kB (c : List D->Option D) (f : FX) : FX:=fun δ=>(f δ).bind fun r=>(c [r.1]).map fun d=>(d,r.2)
theorem WY {x : Str} {T : String} {cD : List D->Option D} {f : FX} (hc : uZ X (.type T) cD) (hm : X.mg x = none) (hv : bootBuiltins x = some (.type T)) (ha : PX X e f) (hg : Gl X x:=by rfl)
  (hn : x ≠ "__name__":=by decide) (hdb : (x == ("__debug__" : Str)) = false:=by decide) (hs : starEach [e] X.env = (false,eval e X.env)::starEach [] X.env:=by rfl)
  (hpl : (backTo pos (starEach [] X.env)).any (·.1) = false:=by rfl) : PX X (.Call (.Name x p) [e] [] pos) (kB cD f):=by
 obtain ⟨r,hc,kc⟩:=hc
 obtain ⟨ta,pa,ka⟩:=ha
 refine ⟨_,uU hc hg hm hv (ya pa yJ hs) hn hdb hs hpl,fun B G H δ σ d δ' Q sG sB rs ef q=>?_⟩
 unfold kB at ef
 obtain ⟨⟨d1,δ1⟩,e1,ef⟩:=obE ef
 obtain ⟨d2,e2,ef⟩:=omE ef
 cases ef
 refine ka B G H δ σ d1 δ1 _ sG sB rs e1 fun v G1 H1 s1 rs1 r1=>?_
 exact kc G1 H1 [d1] [v] _ Q s1.s ⟨v,[],rfl,.inl r1,rfl⟩ e2 fun u G2 H2 g2 r2=>q u G2 H2 (s1.trans (g2.stp s1.b)) (rs1.grow g2) r2
noncomputable def zcE (M : List Sl->Option (Rs × En)) (f : FR) (g : En->Option (List D)) : FE:=fun δ=>(f δ).bind fun r=>match r with | .fr m=>(g δ).bind fun ds=>(J0 M (.o m::ds.map .v)).bind fun p=>(match p.1 with | .sh d=>some d | _=>none) | _=>none
end
section
variable {X : Cx} {e : Expr} {es : List Expr} {pos p : Pos}
@[simp] def WZ (f : FX) : FS:=fun δ=>(f δ).map fun r=>.rt (.sh r.1) r.2
theorem UN {f : FX} (he : PX X e f) : PSD X (.Return (some e) pos) (WZ f):=by
 obtain ⟨t,pt,k⟩:=he
 refine ⟨_,XZ pt,fun B G H δ σ o D sG sB rs e w=>?_⟩
 unfold WZ at e
 obtain ⟨⟨d,δ'⟩,e1,rfl⟩:=omE e
 exact k B G H δ σ d δ' _ sG sB rs e1 fun v G' H' s1 rs1 r1=>w v σ G' H' s1 rs1 r1
@[simp] def zaV (i : Nat) (f : FR) : FS:=fun δ=>(f δ).bind fun r=>match r,δ[i]? with
 | .fr (.lst ys),some (some (.pv (.lst ds) o))=>if ds.length + ys.length <= sizeLine then some (.nx (δ.set i (some (.pv (.lst (ds++ys)) o)))) else none
 | _,_=>none
theorem Q7 (i : Nat) {x : Str} {f : FR} {p p1 p2 : Pos} (he : PR X e f) (hN : X.N[i]? = some x:=by rfl) (hv : Vis X.env.scope x:=by first | exact Or.inl rfl | exact Or.inr (Or.inl rfl) | exact Or.inr (Or.inr rfl))
  (hb : ∀ {t : TE} {tx : TE},PE X (.Name x p) tx->PE X e t->PE X (.Call (.Attribute (.Name x p) "extend" p1) [e] [] p2) (tBM X.K "list" rExtend tx (qO t tNil)):=by
   intro t tx hx ht; exact jV PySem.F.plainAttrs_list PySem.F.slot_list_extend PySem.F.type_list_extend Wn hx (ya ht yJ))
  (hd : (x == ("__debug__" : Str)) = false:=by decide) (hcd : (x == ("__classdict__" : Str)) = false:=by decide) (hs : swapsWith (.Call (.Attribute (.Name x p) "extend" p1) [e] [] p2) none pos.line X.env = pure false:=by rfl) :
  PSD X (.Expr (.Call (.Attribute (.Name x p) "extend" p1) [e] [] p2) pos) (zaV i f):=by
 obtain ⟨t,pt,k⟩:=he
 refine ⟨_,XY (hb (wW hN hv hd hcd) pt) hs,fun B G H δ σ o D sG sB rs e w=>?_⟩
 unfold zaV at e
 obtain ⟨r,e1,e⟩:=obE e
 split at e
 ·rename_i ys ds o1 em
  split at e
  ·rename_i hl
   cases e
   obtain ⟨v,h1,a,vs,rfl,h2,h3,h4,h5,h6,_⟩:=rs.at_ i _ em
   refine ⟨_,h1,.inl ⟨rfl,_,SqL.of h4⟩,k B G H δ σ (.fr (.lst ys)) _ sG rs e1 fun b us G1 H1 g1 hn ok rl=>?_⟩
   have hH : H1 a = some (.lst vs):=g1.h _ _ h4
   have hG1 : G1 a = none:=g1.n a _ h4 h3
   have hab : a ≠ b:=fun z=>by subst z; rw [hH] at hn; cases hn
   have rl' : RepL X.K G1 ys us:=rl
   have h6' : RepL X.K G ds vs:=h6
   refine ⟨a,b,vs,us,rfl,rfl,(by rw [zR hab]; exact hH),yh,by rw [<- h6'.length,<- rl'.length]; exact hl,?_⟩
   have g2 : Grow G1 H1 G1 (upd H1 b (.lst us)):=⟨zW.refl _,yi _ hn,g1.s.trans (yi _ hn),fun _ _ _ n=>n⟩
   have g12:=g1.trans g2
   exact w σ G1 _ ((g12.stp sB).trans (qV g12.s (sB.trans g12.h) h2 hG1)) ((rs.grow g12).upd (m':=.lst (ds++ys)) (us:=vs++us) em h1 h2 hG1 True.intro ((h6'.mono g1.g).append rl'))
  ·cases e
 ·cases e
end
section
variable {X : Cx} {e : Expr} {es : List Expr} {pos p : Pos}
@[simp] def Xr (i : Nat) (fk fv : FE) : FS:=fun δ=>match δ[i]? with
 | some (some (.pv (.lst ds) o))=>(fv δ).bind fun d=>(fk δ).bind fun kd=>match kd with | .int k=>(ixN ds.length k).bind fun j=>some (.nx (δ.set i (some (.pv (.lst (ds.set j d)) o)))) | _=>none
 | _=>none
theorem RepL.lset {K : PySem.W.Frag} {G : Hp} : ∀ {ds : List D} {vs : List V} {j : Nat} {d : D} {v : V},RepL K G ds vs->Rep K G d v->RepL K G (ds.set j d) (vs.set j v)
 | [],_,j,d,v,h,r=>by simp only [RepL] at h; subst h; simp [RepL]
 | x::ds,_,j,d,v,h,r=>by
  simp only [RepL] at h
  obtain ⟨u,us,rfl,h1,h2⟩:=h
  cases j with
  | zero=>simp only [List.set_cons_zero,RepL]; exact ⟨v,us,rfl,r,h2⟩
  | succ j=>simp only [List.set_cons_succ,RepL]; exact ⟨u,us.set j v,rfl,h1,h2.lset r⟩
theorem YF (i : Nat) {x : Str} {k value : Expr} {fk fv : FE} {p p1 : Pos} (hk : PD X k fk) (hv : PD X value fv) (hN : X.N[i]? = some x:=by rfl) (hvi : Vis X.env.scope x:=by first | exact Or.inl rfl | exact Or.inr (Or.inl rfl) | exact Or.inr (Or.inr rfl))
  (hd : (x == ("__debug__" : Str)) = false:=by decide) (hcd : (x == ("__classdict__" : Str)) = false:=by decide)
  (ha : ∀ v,assign (.Subscript (.Name x p) k p1) X.env v = (do
   let ov <- holding [v] (eval (.Name x p) X.env)
   let iv <- holding [v,ov] (eval k X.env)
   standAt p1
   holding [v,ov,iv] (setItem ov iv v)
   release [v,ov,iv] []):=by intro _; rfl)
  (hs : swapsWithSole [.Subscript (.Name x p) k p1] value pos.line X.env = pure false:=by rfl) (hw : swappedStores [.Subscript (.Name x p) k p1] value X.env = pure none:=by rfl)
  (h1 : (assignEach [.Subscript (.Name x p) k p1] X.env).map (·.2) = [assign (.Subscript (.Name x p) k p1) X.env]:=by rfl) :
  PSD X (.Assign [.Subscript (.Name x p) k p1] value pos) (Xr i fk fv):=by
 obtain ⟨tk,pk,kk⟩:=hk
 obtain ⟨tv,pv,kv⟩:=hv
 refine ⟨_,zai pv (zag (wW hN hvi hd hcd) pk Up ha) hs hw h1,fun B G H δ σ o D sG sB rs e w=>?_⟩
 unfold Xr at e
 split at e
 ·rename_i ds o1 em
  obtain ⟨d,e1,e⟩:=obE e
  obtain ⟨kd,e2,e⟩:=obE e
  split at e
  ·rename_i kk'
   obtain ⟨j,e3,e⟩:=obE e
   cases e
   refine kv B G H δ σ d _ sG rs e1 fun u G1 H1 g1 r1=>?_
   obtain ⟨v,h1,a,vs,rfl,h2,h3,h4,h5,h6,_⟩:=(rs.grow g1).at_ i _ em
   refine ⟨_,h1,kk B G1 H1 δ σ (.int kk') _ g1.s (rs.grow g1) e2 fun ku G2 H2 g2 r2=>?_⟩
   simp only [Rep] at r2
   subst r2
   have hH : H2 a = some (.lst vs):=g2.h _ _ h4
   have hG2 : G2 a = none:=g2.n a _ h4 h3
   have h6' : RepL X.K G1 ds vs:=h6
   refine ⟨a,vs,kk',j,rfl,rfl,hH,by rw [<- h6'.length]; exact e3,?_⟩
   have g12:=g1.trans g2
   exact w σ G2 _ ((g12.stp sB).trans (qV g2.s (sB.trans g12.h) h2 hG2)) ((rs.grow g12).upd (m':=.lst (ds.set j d)) (us:=vs.set j u) em h1 h2 hG2 True.intro ((h6'.mono g2.g).lset (r1.mono g2.g)))
  ·cases e
 ·cases e
def Q8 (neg : Bool) : R2:=fun x y H Q=>∃ a o,y = .ref a /\ JX H a x o /\ Q (.bl (if neg then !o.isSome else o.isSome)) H
theorem Q9 (hu : X.A.units + 20 < cLine) : OpR X (compareOp .In) (Q8 false):=by
 intro pins s σ H x y v u Q I rx ry h
 obtain ⟨a,o,rfl,g,q⟩:=h
 cases ry
 exact zdB (by omega) I g rx fun s' I'=>⟨.bl _,H,I',rfl,q⟩
theorem Xs (hu : X.A.units + 20 < cLine) : OpR X (compareOp .NotIn) (Q8 true):=by
 intro pins s σ H x y v u Q I rx ry h
 obtain ⟨a,o,rfl,g,q⟩:=h
 cases ry
 exact QI (by omega) I g rx fun s' I'=>⟨.bl _,H,I',rfl,q⟩
def zaW (neg : Bool) : D->D->Option D
 | x,.dic ks ds=>(zb2 x).map fun k=>.bl (if neg then !(qT ks ds k).isSome else (qT ks ds k).isSome)
 | _,_=>none
theorem YG {f : Value->Value->Sem Value} {neg : Bool} (h : OpR X f (Q8 neg)) : OpD X f (zaW neg):=by
 refine ⟨_,h,fun G H x y v u d Q sG rx ry e k=>?_⟩
 unfold zaW at e
 split at e
 ·rename_i x' ks ds
  obtain ⟨kk,e1,rfl⟩:=omE e
  obtain ⟨a,vs,rfl,hd,hl,nd,rl⟩:=ry.dic sG
  have:=Yz e1 rx
  subst this
  refine ⟨a,jZ (ks.zip vs) kk,rfl,.inl ⟨_,kk,hd,rfl,rfl⟩,?_⟩
  have hs : (jZ (ks.zip vs) kk).isSome = (qT ks ds kk).isSome:=by
   cases ed : qT ks ds kk with
   | none=>rw [(w9 kk hl rl).2 ed]; rfl
   | some y=>obtain ⟨w',e3,_⟩:=(w9 kk hl rl).1 y ed; rw [e3]; rfl
  rw [hs]
  exact k _ G H (Grow.refl sG) (by simp [Rep])
 ·cases e
theorem UO (hu : X.A.units + 20 < cLine) : OpD X (compareOp .In) (fun x y=>(inD false x y).or (zaW false x y)):=zcy.or (YG (Q9 hu))
theorem ZP (hu : X.A.units + 20 < cLine) : OpD X (compareOp .NotIn) (fun x y=>(inD true x y).or (zaW true x y)):=Uy.or (YG (Xs hu))
end
theorem W0 {a b x : V} (h : eqV a b = true) : eqV a x = eqV b x:=by
 cases a <;> cases b <;> simp only [eqV,Bool.false_eq_true,beq_iff_eq] at h <;> first | rfl | (cases x <;> simp_all [eqV]) | skip
 all_goals (try (cases h))
 all_goals (rename_i b1 b2; cases b1 <;> cases b2 <;> rfl)
theorem Ja {xs : List D} {y : D} (h : eqA (.tup xs) y = true) : ∃ ys,y = .tup ys /\ eqAs xs ys = true:=by
 cases y with
 | tup ys=>exact ⟨ys,rfl,by simpa only [eqA] using h⟩
 | _=>simp [eqA] at h
theorem Jb {xs : List D} {y : D} (h : eqA (.lst xs) y = true) : ∃ ys,y = .lst ys /\ eqAs xs ys = true:=by
 cases y with
 | lst ys=>exact ⟨ys,rfl,by simpa only [eqA] using h⟩
 | _=>simp [eqA] at h
theorem W1 : ∀ (n : Nat) {a b x : D},zB n a = true->zB n b = true->zB n x = true->eqA a b = true->eqA a x = eqA b x:=by
 intro n
 have flatc : ∀ {a b x : D},yW a = true->eqA a b = true->yW b = true:=fun {a b x} ha h=>by
  cases a <;> first | exact absurd ha Bool.false_ne_true | (cases b <;> first | rfl | (simp [eqA,yW] at h))
 have fc : ∀ {a b x : D},yW a = true->eqA a b = true->eqA a x = eqA b x:=fun {a b x} ha h=>by
  have hb : yW b = true:=flatc (x:=x) ha h
  rw [xE ha hb] at h
  by_cases hx : yW x = true
  ·rw [xE ha hx,xE hb hx]
   exact W0 h
  ·have e1 : ∀ {c : D},yW c = true->eqA c x = false:=fun {c} hc=>by
    cases c <;> first | exact absurd hc Bool.false_ne_true | (cases x <;> first | (exact absurd rfl hx) | simp [eqA,yW])
   rw [e1 ha,e1 hb]
 induction n with
 | zero=>
  intro a b x pa pb px h
  refine fc ?_ h
  cases a <;> first | rfl | exact absurd pa Bool.false_ne_true
 | succ n ih=>
  intro a b x pa pb px h
  have lists : ∀ {xs ys zs : List D},xs.all (zB n) = true->ys.all (zB n) = true->zs.all (zB n) = true->eqAs xs ys = true->eqAs xs zs = eqAs ys zs:=by
   intro xs
   induction xs with
   | nil=>
    intro ys zs _ _ _ h
    cases ys with
    | nil=>rfl
    | cons y ys=>simp [eqAs] at h
   | cons x xs ih2=>
    intro ys zs p1 p2 p3 h
    cases ys with
    | nil=>simp [eqAs] at h
    | cons y ys=>
     simp only [eqAs,Bool.and_eq_true] at h
     rw [List.all_cons,Bool.and_eq_true] at p1 p2
     cases zs with
     | nil=>simp [eqAs]
     | cons z zs=>
      rw [List.all_cons,Bool.and_eq_true] at p3
      simp only [eqAs]
      rw [ih p1.1 p2.1 p3.1 h.1,ih2 p1.2 p2.2 p3.2 h.2]
  cases a with
  | tup xs=>
   obtain ⟨ys,rfl,h⟩:=Ja h
   cases x with
   | tup zs=>simp only [eqA]; exact lists pa pb px h
   | _=>simp [eqA]
  | lst xs=>
   obtain ⟨ys,rfl,h⟩:=Jb h
   cases x with
   | lst zs=>simp only [eqA]; exact lists pa pb px h
   | _=>simp [eqA]
  | dic ks xs=>cases pa
  | obj _ _ _=>cases pa
  | _=>exact fc rfl h
section
variable {X : Cx}
theorem UP {v v' : V} {u : Value} (h : yp v u) (h' : yp v' u) : v = v':=by
 cases v <;> cases v' <;> simp only [yp] at h h' <;> first | rfl | (subst h; cases h'; done) | (subst h; cases h'; rfl) | (obtain ⟨t,rfl⟩:=h; obtain ⟨t',e⟩:=h'; cases e; rfl) | (obtain ⟨t,rfl⟩:=h; cases h'; done) | (obtain ⟨t,rfl⟩:=h; obtain ⟨t',e⟩:=h'; cases e; done) | (obtain ⟨t,rfl⟩:=h'; cases h; done)
def inA (x : D) (ds : List D) : Bool:=ds.any fun d=>eqA d x
open Classical in
noncomputable def yK : List Value->List D->Value->D
 | u::us,d::ds,w=>if u = w then d else yK us ds w
 | _,_,_=>.non
theorem yO {K : PySem.W.Frag} {H : Hp} : ∀ {ds : List D} {vs : List V} {us : List Value},RepL K H ds vs->yn vs us->∀ w ∈ us,∃ v,yK us ds w ∈ ds /\ Rep K H (yK us ds w) v /\ yp v w
 | [],_,_,r,v=>fun w hw=>by simp only [RepL] at r; subst r; cases v; cases hw
 | d::ds,_,_,r,v=>fun w hw=>by
  simp only [RepL] at r
  obtain ⟨v0,vr,rfl,r0,rl⟩:=r
  cases v with
  | cons rv rvs=>
   rename_i u us
   unfold yK
   split
   ·rename_i e
    subst e
    exact ⟨v0,List.mem_cons_self,r0,rv⟩
   ·rename_i hne
    rcases List.mem_cons.mp hw with rfl | hw
    ·exact absurd rfl hne
    ·obtain ⟨v,h1,h2,h3⟩:=yO rl rvs w hw
     exact ⟨v,List.mem_cons_of_mem _ h1,h2,h3⟩
theorem vh {pins : List (Addr × Obj)} {σ : St} {H : Hp} {s : Shared} (I : Inv X pins σ H s) {x : D} (px : zB 8 x = true) {ds : List D} {vs : List V} {us : List Value} (pd : ds.all (zB 8) = true) (r : RepL X.K H ds vs) (v : yn vs us) :
  us.any (fun w=>eqA (yK us ds w) x) = inA x ds:=by
 have key : ∀ (i : Nat) (d : D) (w : Value),ds[i]? = some d->us[i]? = some w->eqA (yK us ds w) x = eqA d x:=fun i d w ed ew=>by
  obtain ⟨v1,h1,h2,h3⟩:=yO r v w (List.mem_of_getElem? ew)
  obtain ⟨v2,g1,g2⟩:=r.get ed
  obtain ⟨u2,k1,k2⟩:=v.get g1
  rw [ew] at k1
  cases k1
  have:=UP h3 k2
  subst this
  have p1:=List.all_eq_true.mp pd _ h1
  have p2:=List.all_eq_true.mp pd _ (List.mem_of_getElem? ed)
  exact W1 8 p1 p2 px (uL I 8 p1 p2 h2 g2)
 have hl : ds.length = us.length:=r.length.trans v.length
 unfold inA
 rw [Bool.eq_iff_iff,List.any_eq_true,List.any_eq_true]
 constructor
 ·rintro ⟨w,hw,e⟩
  obtain ⟨i,hi⟩:=List.mem_iff_getElem?.mp hw
  have hlt:=(List.getElem?_eq_some_iff.mp hi).1
  have hd : ds[i]? = some ds[i]:=List.getElem?_eq_getElem (by omega)
  exact ⟨ds[i],List.getElem_mem _,by rw [<- key i _ w hd hi]; exact e⟩
 ·rintro ⟨d,hd,e⟩
  obtain ⟨i,hi⟩:=List.mem_iff_getElem?.mp hd
  have hlt:=(List.getElem?_eq_some_iff.mp hi).1
  have hw : us[i]? = some us[i]:=List.getElem?_eq_getElem (by omega)
  exact ⟨us[i],List.getElem_mem _,by rw [key i d _ hi hw]; exact e⟩
def zcF (K : PySem.W.Frag) (neg : Bool) : R2:=fun v u H Q=>∃ x ds,Rep K H x v /\ (Rep K H (.lst ds) u \/ Rep K H (.tup ds) u) /\ zB 8 x = true /\ ds.all (zB 8) = true /\ Q (.bl (if neg then !inA x ds else inA x ds)) H
theorem zaX (hu : X.A.units + 20 < cLine) : OpR X (compareOp .In) (zcF X.K false):=by
 intro pins s σ H y z v u Q I ry rz h
 obtain ⟨x,ds,r1,r2,p1,p2,q⟩:=h
 rcases r2 with r2 | r2
 ·simp only [Rep] at r2
  obtain ⟨b,us,rfl,h3,h4⟩:=r2
  cases rz
  obtain ⟨its,rv,pl,hz⟩:=I.list h3
  refine SeqAt.in_listAt (fun w=>eqA (yK its ds w) x) pl.isList (fun w hw=>?_) ⟨.bl _,H,I,rfl,?_⟩
  ·obtain ⟨v1,g1,g2,g3⟩:=yO h4 rv w (by simpa using hw)
   exact u9 I 8 (List.all_eq_true.mp p2 _ g1) p1 g2 r1 g3 ry (by rw [z4]; omega)
  ·rw [show its.toArray.any (fun w=>eqA (yK its ds w) x) = its.any (fun w=>eqA (yK its ds w) x) by simp,vh I p1 p2 h4 rv]
   exact q
 ·simp only [Rep] at r2
  obtain ⟨b,us,rfl,h3,h4⟩:=r2
  cases rz
  obtain ⟨its,rv,pl,hz⟩:=I.tuple h3
  refine SeqAt.in_tupleAt (fun w=>eqA (yK its ds w) x) pl (fun w hw=>?_) ⟨.bl _,H,I,rfl,?_⟩
  ·obtain ⟨v1,g1,g2,g3⟩:=yO h4 rv w (by simpa using hw)
   exact u9 I 8 (List.all_eq_true.mp p2 _ g1) p1 g2 r1 g3 ry (by rw [z4]; omega)
  ·rw [show its.toArray.any (fun w=>eqA (yK its ds w) x) = its.any (fun w=>eqA (yK its ds w) x) by simp,vh I p1 p2 h4 rv]
   exact q
theorem W2 (hu : X.A.units + 20 < cLine) : OpR X (compareOp .NotIn) (zcF X.K true):=by
 intro pins s σ H y z v u Q I ry rz h
 obtain ⟨x,ds,r1,r2,p1,p2,q⟩:=h
 rcases r2 with r2 | r2
 ·simp only [Rep] at r2
  obtain ⟨b,us,rfl,h3,h4⟩:=r2
  cases rz
  obtain ⟨its,rv,pl,hz⟩:=I.list h3
  refine SeqAt.notIn_listAt (fun w=>eqA (yK its ds w) x) pl.isList (fun w hw=>?_) ⟨.bl _,H,I,rfl,?_⟩
  ·obtain ⟨v1,g1,g2,g3⟩:=yO h4 rv w (by simpa using hw)
   exact u9 I 8 (List.all_eq_true.mp p2 _ g1) p1 g2 r1 g3 ry (by rw [z4]; omega)
  ·rw [show its.toArray.any (fun w=>eqA (yK its ds w) x) = its.any (fun w=>eqA (yK its ds w) x) by simp,vh I p1 p2 h4 rv]
   exact q
 ·simp only [Rep] at r2
  obtain ⟨b,us,rfl,h3,h4⟩:=r2
  cases rz
  obtain ⟨its,rv,pl,hz⟩:=I.tuple h3
  refine SeqAt.notIn_tupleAt (fun w=>eqA (yK its ds w) x) pl (fun w hw=>?_) ⟨.bl _,H,I,rfl,?_⟩
  ·obtain ⟨v1,g1,g2,g3⟩:=yO h4 rv w (by simpa using hw)
   exact u9 I 8 (List.all_eq_true.mp p2 _ g1) p1 g2 r1 g3 ry (by rw [z4]; omega)
  ·rw [show its.toArray.any (fun w=>eqA (yK its ds w) x) = its.any (fun w=>eqA (yK its ds w) x) by simp,vh I p1 p2 h4 rv]
   exact q
def zaY (neg : Bool) : D->D->Option D
 | x,.lst ds=>if zB 8 x = true /\ ds.all (zB 8) = true then some (.bl (if neg then !inA x ds else inA x ds)) else none
 | x,.tup ds=>if zB 8 x = true /\ ds.all (zB 8) = true then some (.bl (if neg then !inA x ds else inA x ds)) else none
 | _,_=>none
theorem W3 {f : Value->Value->Sem Value} {neg : Bool} (h : OpR X f (zcF X.K neg)) : OpD X f (zaY neg):=by
 refine ⟨_,h,fun G H x y v u d Q sG rx ry e k=>?_⟩
 unfold zaY at e
 split at e
 ·split at e
  ·rename_i hp
   cases e
   exact ⟨x,_,rx.all sG,.inl (ry.all sG),hp.1,hp.2,k _ G H (Grow.refl sG) (by simp [Rep])⟩
  ·cases e
 ·split at e
  ·rename_i hp
   cases e
   exact ⟨x,_,rx.all sG,.inr (ry.all sG),hp.1,hp.2,k _ G H (Grow.refl sG) (by simp [Rep])⟩
  ·cases e
 ·cases e
def inE (neg : Bool) (x y : D) : Option D:=(zaY neg x y).or ((inD neg x y).or (zaW neg x y))
theorem v6 (hu : X.A.units + 20 < cLine) : OpD X (compareOp .In) (inE false):=(W3 (zaX hu)).or (UO hu)
theorem W4 (hu : X.A.units + 20 < cLine) : OpD X (compareOp .NotIn) (inE true):=(W3 (W2 hu)).or (ZP hu)
end
open PySem.AutoSeq1 (wpAny_loadPart')
open PySem.MeetsSeq PySem.MeetsSeq2 PySem.MeetsSeq3 PySem.SeqAt
def EqP (pr : Program) (w : World) (A : Around) (s : Shared) (u v : Value) (c : Bool) : Prop:=∀ (E : Value->Shared->Prop) (Q : Bool->Shared->Prop),Q c s->wpAny (model pr w) A (eqBool u v) Q E s
abbrev TR (d : Option Addr) (xs : Array Value) (n : Nat) (sl : Array (Option Value)) : Obj:={ cls:=.type "list",dict:=d,data:=.seq xs n,slots:=sl }
theorem UQ {pr : Program} {w : World} (p q : Addr) (xs ys : Array Value) (n m : Nat) (d1 d2 : Option Addr) (s1 s2 : Array (Option Value)) (hz : xs.size = ys.size) (e : Nat->Bool) (k : Nat) :
  ∀ i : Nat,xs.size - i = k->∀ (A : Around) (R : Result->Shared->Prop) (s : Shared),s.heap.get? p = some (TR d1 xs n s1)->s.heap.get? q = some (TR d2 ys m s2)->
   (∀ j (h1 : j < xs.size) (h2 : j < ys.size),EqP pr w A.in1 s xs[j] ys[j] (e j))->R (.ok (.ret (.bool (!((List.range xs.size).drop i).all e)))) s->
   wpAny (model pr w) A.in1 (Builtin.«list.__eq__.loop» ⟨[.ref p,.ref q,rawInt i,rawInt 3],[]⟩)
    (fun fin s'=>match fin with | .done f=>R (.ok f) s' | .again c'=>c'.quiet = true /\ codeAny (model pr w) A c' R s') (fun e s'=>R (.error e) s') s:=by
 induction k with
 | zero=>
  intro i hk A R s hp hq he h
  obtain ⟨hh,g,d,tk,os⟩:=s
  wp_walk using wpAny_loadPart' hp,wpAny_loadPart' hq
  have z1 : xs[((i : Nat) : Int).toNat]? = none:=by simp; omega
  have z2 : ys[((i : Nat) : Int).toNat]? = none:=by simp; omega
  have zd : (List.range xs.size).drop i = []:=by simp; omega
  rw [zd] at h
  rw [z1,z2]
  wp_walk using wpAny_loadPart' hp,wpAny_loadPart' hq
  show R (.ok (.ret (.bool (xs.size != ys.size)))) _
  rw [hz]
  simpa using h
 | succ k ih=>
  intro i hk A R s hp hq he h
  obtain ⟨hh,g,d,tk,os⟩:=s
  wp_walk using wpAny_loadPart' hp,wpAny_loadPart' hq
  have l1 : i < xs.size:=by omega
  have l2 : i < ys.size:=by omega
  have z1 : xs[((i : Nat) : Int).toNat]? = some xs[i]:=by simp [l1]
  have z2 : ys[((i : Nat) : Int).toNat]? = some ys[i]:=by simp [l2]
  have zd : (List.range xs.size).drop i = i::(List.range xs.size).drop (i + 1):=by simp [List.drop_eq_getElem_cons,l1]
  have zc : ((i : Int) + 1) = ((i + 1 : Nat) : Int):=by push_cast; rfl
  rw [zd,List.all_cons] at h
  rw [z1,z2]
  refine wpAny_bind (he i l1 l2 _ _ ?_)
  cases ei : e i with
  | true=>
   rw [ei] at h
   wp_walk
   rw [zc]
   exact ⟨plainId_quiet plain_eq_loop _,codeAny_builtin entry_eq_loop (by rw [Around.under_plainId plain_eq_loop _]; exact ih (i + 1) (by omega) A R _ hp hq he (by simpa using h))⟩
  | false=>
   rw [ei] at h
   wp_walk using wpAny_loadPart' hp,wpAny_loadPart' hq
   rw [z1,z2]
   wp_walk
   simpa using h
theorem UR {pr : Program} {w : World} {A : Around} {E : Value->Shared->Prop} {s : Shared} {p q : Addr} {xs ys : Array Value} {e : Nat->Bool} {Q : Value->Shared->Prop} (hl : s.heap.IsList p xs) (hb : s.heap.IsList q ys) (hz : xs.size = ys.size) (hu : A.units < cLine)
  (he : ∀ j (h1 : j < xs.size) (h2 : j < ys.size),EqP pr w A.in1 s xs[j] ys[j] (e j)) (h : Q (.bool (!(List.range xs.size).all e)) s) : wpAny (model pr w) A (compareOp .NotEq (.ref p) (.ref q)) Q E s:=by
 obtain ⟨⟨c1,d1,dt1,s1⟩,ho,hc,n,hd⟩:=id hl
 obtain ⟨⟨c2,d2,dt2,s2⟩,ho2,hc2,m,hd2⟩:=id hb
 simp only at hc hd hc2 hd2
 subst hc hd hc2 hd2
 refine wpAny_richCompare_same_room (op:=.NotEq) ⟨_,ho,rfl⟩ ⟨_,ho2,rfl⟩ PySem.F.slot_list_ne (wpAny_call (codeAny_call_builtin PySem.F.slot_list_ne.plain PySem.F.entry_list_ne (PySem.F.slot_list_ne.check _ _ _ _ _ _ _ _ ⟨_,ho,rfl⟩ (PySem.F.args_list_ne_2 _ _) ?_))) hu
 obtain ⟨hh,g,d,tk,os⟩:=s
 have f3:=PySem.AutoSeq1.sub_list_list
 have hne : ¬ (xs.size != ys.size) = true:=by simp [hz]
 wp_walk using wpAny_loadPart' ho,wpAny_loadPart' ho2
 exact ⟨plainId_quiet plain_eq_loop _,codeAny_builtin entry_eq_loop (by rw [Around.under_plainId plain_eq_loop _]; exact UQ p q xs ys n m d1 d2 s1 s2 hz e _ 0 rfl A (PySem.wants (fun v s'=>v ≠ .notImplemented /\ Q v s') E) _ ho ho2 he (show Value.bool (!((List.range xs.size).drop 0).all e) ≠ Value.notImplemented /\ Q (.bool (!((List.range xs.size).drop 0).all e)) _ from ⟨(fun z=>nomatch z),by simpa using h⟩))⟩
def tw : D->D->Bool
 | .dic _ xs,.dic _ ys=>xs.all (zB 8) && ys.all (zB 8)
 | x,y=>zB 8 x && zB 8 y
def eqI : D->D->Bool
 | .dic ks xs,.dic ls ys=>ZH ks xs ls ys
 | x,y=>eqA x y
def xG : List D->List D->Bool
 | x::xs,y::ys=>tw x y && xG xs ys
 | [],[]=>true
 | _,_=>false
def zaZ : List D->List D->Bool
 | x::xs,y::ys=>eqI x y && zaZ xs ys
 | [],[]=>true
 | _,_=>false
theorem tD : ∀ {xs ys : List D},xG xs ys = true->xs.length = ys.length
 | [],[],_=>rfl
 | x::xs,y::ys,h=>by
  simp only [xG,Bool.and_eq_true] at h
  simp [tD h.2]
 | [],_::_,h=>by cases h
 | _::_,[],h=>by cases h
theorem tE : ∀ {xs ys : List D} {j : Nat} {x y : D},xG xs ys = true->xs[j]? = some x->ys[j]? = some y->tw x y = true
 | [],_,j,x,y,_,e,_=>by simp at e
 | _::_,[],j,x,y,h,_,_=>by cases h
 | a::xs,b::ys,j,x,y,h,e1,e2=>by
  simp only [xG,Bool.and_eq_true] at h
  cases j with
  | zero=>simp at e1 e2; subst e1 e2; exact h.1
  | succ j=>exact tE h.2 (by simpa using e1) (by simpa using e2)
theorem YH : ∀ {xs ys : List D},xG xs ys = true->zaZ xs ys = (List.range xs.length).all fun j=>eqI (xs.getD j .non) (ys.getD j .non)
 | [],[],_=>rfl
 | x::xs,y::ys,h=>by
  simp only [xG,Bool.and_eq_true] at h
  simp only [zaZ]
  rw [YH h.2,List.length_cons,List.range_succ_eq_map,List.all_cons,List.all_map]
  rfl
 | [],_::_,h=>by cases h
 | _::_,[],h=>by cases h
theorem za0 {H : Hp} {a : Addr} {k1 k2 : List (Key × V)} (h1 : Rd H a (.dK k1)) (h2 : Rd H a (.dK k2)) : k1 = k2:=by
 rcases h1 with h1 | ⟨o1,h1⟩
 ·rcases h2 with h2 | ⟨o2,h2⟩
  ·rw [h1] at h2; cases h2; rfl
  ·rw [h1] at h2; cases h2
 ·rcases h2 with h2 | ⟨o2,h2⟩
  ·rw [h1] at h2; cases h2
  ·rw [h1] at h2; cases h2; rfl
section
variable {X : Cx} {pins : List (Addr × Obj)} {σ : St} {H : Hp} {s : Shared}
theorem W5 {α β : Type} : ∀ {as as' : List α} {bs bs' : List β},as.length = bs.length->as'.length = bs'.length->as.zip bs = as'.zip bs'->as = as' /\ bs = bs'
 | [],[],[],[],_,_,_=>⟨rfl,rfl⟩
 | [],a::as',[],b::bs',_,_,e=>by simp at e
 | a::as,[],b::bs,[],_,_,e=>by simp at e
 | a::as,a'::as',b::bs,b'::bs',h1,h2,e=>by
  simp only [List.zip_cons_cons,List.cons.injEq,Prod.mk.injEq] at e
  obtain ⟨r1,r2⟩:=W5 (by simpa using h1) (by simpa using h2) e.2
  exact ⟨by rw [e.1.1,r1],by rw [e.1.2,r2]⟩
theorem US (I : Inv X pins σ H s) {ks ls : List Key} {xs ys : List D} {v : V} (p1 : xs.all (zB 8) = true) (p2 : ys.all (zB 8) = true) (r1 : Rep X.K H (.dic ks xs) v) (r2 : Rep X.K H (.dic ls ys) v) : ZH ks xs ls ys = true:=by
 simp only [Rep] at r1 r2
 obtain ⟨a,vs,rfl,h1,l1,n1,q1⟩:=r1
 obtain ⟨b,us,e,h2,l2,n2,q2⟩:=r2
 cases e
 obtain ⟨rfl,rfl⟩:=W5 (l1.trans q1.length) (l2.trans q2.length) (za0 h1 h2)
 unfold ZH
 rw [Bool.and_eq_true,List.all_eq_true]
 refine ⟨by rw [q1.length,q2.length]; simp,fun kv hkv=>?_⟩
 have key : ∀ {ks : List Key} {xs ys : List D} {vs : List V},ks.Nodup->RepL X.K H xs vs->RepL X.K H ys vs->xs.all (zB 8) = true->ys.all (zB 8) = true->∀ kv ∈ ks.zip xs,∃ y,qT ks ys kv.1 = some y /\ eqA kv.2 y = true:=by
  intro ks
  induction ks with
  | nil=>intro xs ys vs _ _ _ _ _ kv h; simp at h
  | cons k0 ks ih=>
   intro xs ys vs hn a1 a2 b1 b2 kv h
   cases xs with
   | nil=>simp at h
   | cons x xs=>
    simp only [RepL] at a1
    obtain ⟨v0,vr,rfl,a3,a4⟩:=a1
    cases ys with
    | nil=>simp only [RepL] at a2; cases a2
    | cons y ys=>
     simp only [RepL] at a2
     obtain ⟨v1,vr',e,a5,a6⟩:=a2
     cases e
     rw [List.all_cons,Bool.and_eq_true] at b1 b2
     have hn':=List.nodup_cons.mp hn
     rw [List.zip_cons_cons] at h
     rcases List.mem_cons.mp h with rfl | h
     ·exact ⟨y,by unfold qT; simp,uL I 8 b1.1 b2.1 a3 a5⟩
     ·obtain ⟨y',e1,e2⟩:=ih hn'.2 a4 a6 b1.2 b2.2 kv h
      have hk : kv.1 ∈ ks:=(List.of_mem_zip h).1
      refine ⟨y',?_,e2⟩
      unfold qT at e1 ⊢
      rw [List.zip_cons_cons,List.find?_cons]
      rw [show decide ((k0,y).1 = kv.1) = false from decide_eq_false fun z=>hn'.1 (by rw [show k0 = kv.1 from z]; exact hk)]
      exact e1
 obtain ⟨y,e1,e2⟩:=key n1 q1 q2 p1 p2 kv hkv
 rw [e1]
 exact e2
theorem zcG (I : Inv X pins σ H s) {A : Around} (hu : A.units + 12 < cLine) {x y : D} {v v' : V} {u u' : Value} (ok : tw x y = true) (rx : Rep X.K H x v) (ry : Rep X.K H y v') (r : yp v u) (r' : yp v' u') : EqP X.prog X.w A s u u' (eqI x y):=by
 have plain : zB 8 x = true->zB 8 y = true->EqP X.prog X.w A s u u' (eqA x y):=fun p1 p2 E Q hq=>u9 I 8 p1 p2 rx ry r r' (by omega) X.prog X.w E Q hq
 cases x with
 | dic ks xs=>
  cases y with
  | dic ls ys=>
   simp only [tw,Bool.and_eq_true] at ok
   intro E Q hq
   have r1:=rx
   have r2:=ry
   obtain ⟨a,vs,ka,rfl,m1,d1,k1,l1,rl1,n1⟩:=qh I r1
   obtain ⟨b,us,kb,rfl,m2,d2,k2,l2,rl2,n2⟩:=qh I r2
   cases r
   cases r'
   by_cases hab : a = b
   ·subst hab
    have e1 : eqI (.dic ks xs) (.dic ls ys) = true:=US I ok.1 ok.2 rx ry
    rw [e1] at hq
    exact (PySem.SeqAt.EqAt.same (.ref a) : PySem.SeqAt.EqAt A s (.ref a) (.ref a) true) X.prog X.w E Q hq
   ·have hne : (Value.ref a == Value.ref b) ≠ true:=fun z=>hab (by have:=eq_of_beq z; injection this)
    unfold eqBool
    refine wpAny_holding ?_
    refine wpAny_ite_split (fun z=>absurd z hne) (fun _=>?_)
    refine wpAny_bind (show wpAny (model X.prog X.w) A (compareOp .Eq (.ref a) (.ref b)) _ E s from ?_)
    refine PySem.W.keq_eq m1 m2 d1 d2 (by omega) (fun _=>WL I (by rw [z4]; omega) l2 rl2 ok.2 k2 l1 rl1 ok.1 k1) (wpAny_truthy_bool ?_)
    rw [n1,n2]
    exact hq
  | _=>simp [tw,zB] at ok
 | _=>
  cases y with
  | dic ls ys=>simp [tw,zB] at ok
  | _=>simp only [tw,Bool.and_eq_true] at ok; exact plain ok.1 ok.2
end
section
variable {X : Cx}
def zdD (K : PySem.W.Frag) : R2:=fun v u H Q=>∃ xs ys,Rep K H (.lst xs) v /\ Rep K H (.lst ys) u /\ xG xs ys = true /\ Q (.bl (!zaZ xs ys)) H
theorem za1 (hu : X.A.units + 20 < cLine) : OpR X (compareOp .NotEq) (zdD X.K):=by
 intro pins s σ H x y v u Q I rx ry h
 obtain ⟨xs,ys,r1,r2,ok,q⟩:=h
 simp only [Rep] at r1 r2
 obtain ⟨a,vs,rfl,h1,h2⟩:=r1
 obtain ⟨b,us,rfl,h3,h4⟩:=r2
 cases rx
 cases ry
 obtain ⟨its,v1,t1,_⟩:=I.list h1
 obtain ⟨its2,v2,t2,_⟩:=I.list h3
 have le:=tD ok
 have l1 : xs.length = its.length:=h2.length.trans v1.length
 have l2 : ys.length = its2.length:=h4.length.trans v2.length
 refine UR (e:=fun j=>eqI (xs.getD j .non) (ys.getD j .non)) t1.isList t2.isList (by simp; omega) (by omega) (fun j z1 z2=>?_) ?_
 ·have j1 : j < xs.length:=by simp at z1; omega
  have j2 : j < ys.length:=by simp at z2; omega
  have e1 : xs[j]? = some (xs.getD j .non):=by rw [List.getD_eq_getElem?_getD,List.getElem?_eq_getElem j1]; rfl
  have e2 : ys[j]? = some (ys.getD j .non):=by rw [List.getD_eq_getElem?_getD,List.getElem?_eq_getElem j2]; rfl
  obtain ⟨w1,g1,q1⟩:=h2.get e1
  obtain ⟨w2,g2,q2⟩:=h4.get e2
  obtain ⟨u1,k1,k2⟩:=v1.get g1
  obtain ⟨u2,k3,k4⟩:=v2.get g2
  have t1 : its.toArray[j] = u1:=by
   obtain ⟨_,z⟩:=List.getElem?_eq_some_iff.mp k1
   simpa using z
  have t2 : its2.toArray[j] = u2:=by
   obtain ⟨_,z⟩:=List.getElem?_eq_some_iff.mp k3
   simpa using z
  rw [t1,t2]
  exact zcG I (by rw [z4]; omega) (tE ok e1 e2) q1 q2 k2 k4
 ·refine ⟨.bl _,H,I,rfl,?_⟩
  rw [show its.toArray.size = xs.length by simp; omega,<- YH ok]
  exact q
def neI : D->D->Option D
 | .lst xs,.lst ys=>if xG xs ys = true then some (.bl (!zaZ xs ys)) else none
 | _,_=>none
theorem za2 (hu : X.A.units + 20 < cLine) : OpD X (compareOp .NotEq) neI:=by
 refine ⟨_,za1 hu,fun G H x y v u d Q sG rx ry e k=>?_⟩
 unfold neI at e
 split at e
 ·split at e
  ·rename_i ok
   cases e
   exact ⟨_,_,rx.all sG,ry.all sG,ok,k _ G H (Grow.refl sG) (by simp [Rep])⟩
  ·cases e
 ·cases e
def neE (x y : D) : Option D:=(eqO true x y).or (neI x y)
theorem v7 (hu : X.A.units + 20 < cLine) : OpD X (compareOp .NotEq) neE:=(zaR hu).or (za2 hu)
end
theorem Jc {K : PySem.W.Frag} {h : Heap} {N : Addr} (KX : K.In h) (hn : PySem.W.nsOkIn K N = true) : ∃ m,h.Ns N m:=by
 unfold PySem.W.nsOkIn at hn
 split at hn
 ·rename_i es ep sl hl
  refine ⟨nsFind es,_,es,ep,KX _ _ hl,rfl,?_,fun _=>rfl⟩
  intro e he
  have:=(Array.all_eq_true_iff_forall_mem.mp hn) e he
  split at this
  ·exact ⟨_,_,by assumption⟩
  ·cases this
 ·cases hn
theorem zdE {K : PySem.W.Frag} {h : Heap} {C : Addr} {bmB : List Value} {newId : String} (KX : K.In h) (hx : PySem.W.excIn K C bmB newId = true) :
  ∃ bm N nm q bs hdct sn sub ab col dd k0 k1 k2 k3 k5 mN,h.get? C = some (excClassObj nm q C N bs bm hdct sn sub ab col dd k0 k1 k2 k3 k5 newId) /\ h.Ns N mN /\ mN "__init__" = none /\ OwnTail h bmB bm:=by
 unfold PySem.W.excIn at hx
 split at hx
 ·rename_i dd cd sl hl
  split at hx
  ·rename_i C' bm k0 k1 k2 k3 n k5 hm hs
   simp only [Bool.and_eq_true,Bool.not_eq_true',beq_iff_eq] at hx
   obtain ⟨⟨⟨⟨⟨rfl,rfl⟩,hd⟩,ht⟩,hn⟩,hi⟩:=hx
   obtain ⟨mN,hN⟩:=Jc KX hn
   rcases cd with ⟨nm,bs,mro,ns,q,hdct,sn,sub,ab,col,hdel⟩
   cases hm
   cases hd
   refine ⟨bm,ns,nm,q,bs,hdct,sn,sub,ab,col,dd,k0,k1,k2,k3,k5,mN,?_,hN,PySem.W.ns_none_of KX hN hi,PySem.W.tail_of_in KX ht⟩
   rw [KX _ _ hl]
   have : sl = #[k0,k1,k2,k3,some (Value.builtin n),k5]:=by rw [<- Array.toArray_toList (xs:=sl),hs]
   rw [this]
  ·cases hx
 ·cases hx
theorem UT {h : Heap} {bmB bm : List Value} {v : Value} (t : OwnTail h bmB bm) (e : bmB.contains v = true) : bm.contains v = true:=by
 induction t with
 | base=>exact e
 | own _ _ _ _ ih=>rw [List.contains_cons,ih,Bool.or_true]
def bmV : List Value:=[.type "ValueError",.type "Exception",.type "BaseException",.type "object"]
def YI (K : PySem.W.Frag) (c : Str) : Prop:=∃ C,PySem.W.nsIn K mainGlobals c = some (some (.ref C)) /\ ExcC K C /\ PySem.W.excIn K C bmV "ValueError.__new__" = true
theorem OwnTail.keeps {h h' : Heap} {bmB bm : List Value} (k : ∀ b o,h.get? b = some o->h'.get? b = some o) (t : OwnTail h bmB bm) : OwnTail h' bmB bm:=by
 induction t with
 | base=>exact .base
 | own e n i _ ih=>obtain ⟨o,es,ep,ho,r⟩:=n; exact .own (k _ _ e) ⟨o,es,ep,k _ _ ho,r⟩ i ih
theorem yR.is {P : Program} {w : World} {H : Hp} {h : Heap} {a : Addr} {o : HO} (x : yR P w H h a o) : ∃ u,h.get? a = some u:=by
 induction o with
 | lst xs=>obtain ⟨_,_,_,_,e⟩:=x; exact ⟨_,e⟩
 | tup xs=>obtain ⟨_,_,_,p⟩:=x; obtain ⟨o,e,_⟩:=p; exact ⟨_,e⟩
 | dK kvs=>obtain ⟨_,_,_,_,o,_,_,e,_⟩:=x; exact ⟨_,e⟩
 | dT kvs=>obtain ⟨_,_,_,_,o,_,_,e,_⟩:=x; exact ⟨_,e⟩
 | set S n=>obtain ⟨o,_,_,_,e,_⟩:=x; exact ⟨_,e⟩
 | ins C dx fs=>obtain ⟨_,_,_,e,_⟩:=x; exact ⟨_,e⟩
 | own y=>exact x
 | xd fs=>obtain ⟨_,e,_⟩:=x; obtain ⟨o,_,_,e,_⟩:=e; exact ⟨_,e⟩
 | rng lo hi=>obtain ⟨_,_,_,e⟩:=x; exact ⟨_,e⟩
 | frz o u ih=>exact ⟨_,x.1⟩
 | tbl ps=>exact ⟨_,x⟩
 | met f y=>exact ⟨_,x⟩
 | ext φ=>exact x.2.1
section
variable {X : Cx} {e0 : Expr} {rest : List Expr} {np cpos pos : Pos} {g : En->Option (List D)} {c : Str}
@[simp] def qj (c : Str) (g : En->Option (List D)) : FS:=fun δ=>(g δ).bind fun ds=>if ds.length <= sizeLine then some (.ex ⟨c,[],[]⟩ δ) else none
def za3 (X : Cx) (c : Str) (ta : TA) : TS:=fun D σ H=>ta σ H fun vs H1=>vs.length <= sizeLine /\ ∀ pins s' e C,Inv X pins σ H1 s'->PySem.W.nsIn X.K mainGlobals c = some (some (.ref C))->Fly X H1 s'.heap e C none->X.xe (.ref e) s'
theorem UU {ta : TA} (R : YI X.K c) (hex : X.ex = []) (hc : X.calm = true) (ha : PA X (e0::rest) ta) (hg : Gl X c) (hdb : (c == ("__debug__" : Str)) = false)
  (he : starEach (e0::rest) X.env = (false,eval e0 X.env)::starEach rest X.env) (hpl : (backTo cpos (starEach (e0::rest) X.env)).any (·.1) = false) :
  PS X (.Raise (some (.Call (.Name c np) (e0::rest) [] cpos)) none pos) (za3 X c ta):=by
 intro pins s σ H D I h
 obtain ⟨C,hC,eC,hx⟩:=R
 obtain ⟨bm,N,nm,q,bs,hdct,sn,sub,ab,col,dd,k0,k1,k2,k3,k5,mN,h1,hN,hi,hT⟩:=zdE I.ok.mod.kin hx
 refine wpAny_Raise_call_subT (nm:=nm) (q:=q) (C:=C) (N:=N) (bs:=bs) (hdct:=hdct) (sn:=sn) (sub:=sub) (ab:=ab) (col:=col) (dd:=dd) (k0:=k0) (k1:=k1) (k2:=k2) (k3:=k3) (k5:=k5) PySem.F.excBase_ValueError (UT hT (by decide)) (I.ok.hd hc) hpl hi ?_
 refine Zw I hg (PySem.W.mg_of I.ok.mod.kin I.ok.mod.glob hC) ⟨rfl,?_⟩ hdb
 obtain ⟨x0,hb⟩ : ∃ x0,backTo cpos (starEach (e0::rest) X.env) = (false,x0)::backTo cpos (starEach rest X.env):=⟨_,by rw [he]; rfl⟩
 rw [hb]
 refine Calls.evalArgs_plain ?_
 rw [<- hb]
 refine thn (ha cpos pins s σ H _ I h) fun us s2 ⟨vs,H1,I1,r1,hl,q1⟩=>?_
 obtain ⟨o,es,ep,ho,r⟩:=hN
 refine ⟨rfl,by show us.length <= _; rw [<- r1.length]; exact hl,I1.bk _ _ h1,⟨o,es,ep,I1.bk _ _ ho,r⟩,OwnTail.keeps I1.bk hT,fun h' e me=>?_⟩
 have I3 : Inv X pins σ H1 { s2 with heap:=h' }:=I1.kept (t':=s2.toks) me.keeps
 obtain ⟨t,he',_,_⟩:=me.there
 have fe : H1 e = none:=by
  cases z : H1 e with
  | none=>rfl
  | some u=>obtain ⟨o,ho⟩:=yR.is (I1.hok e u z); rw [me.new] at ho; cases ho
 exact q1 pins _ e C I3 hC ⟨zaF.of I1 hex me.new,fe,_,_,he',rfl,rfl,rfl,.inl rfl⟩
theorem kD (R : YI X.K c) (ha : PAD X (e0::rest) g) (hex : X.ex = []:=by rfl) (hc : X.calm = true:=by rfl) (hg : Gl X c:=by rfl) (hdb : (c == ("__debug__" : Str)) = false:=by decide)
  (he : starEach (e0::rest) X.env = (false,eval e0 X.env)::starEach rest X.env:=by rfl) (hpl : (backTo cpos (starEach (e0::rest) X.env)).any (·.1) = false:=by rfl) :
  PSD X (.Raise (some (.Call (.Name c np) (e0::rest) [] cpos)) none pos) (qj c g):=by
 obtain ⟨ta,pa,ka⟩:=ha
 refine ⟨_,UU R hex hc pa hg hdb he hpl,fun B G H δ σ o D sG sB rs e w=>?_⟩
 unfold qj at e
 obtain ⟨ds,e1,e⟩:=obE e
 split at e
 ·rename_i hl
  cases e
  refine ka B G H δ σ ds _ sG rs e1 fun vs G1 H1 g1 r1=>⟨by rw [<- r1.length]; exact hl,fun pins s' e C I hC F=>?_⟩
  exact w pins σ G1 H1 s' e C none I (g1.stp sB) (rs.grow g1) hC ⟨rfl,rfl⟩ F
 ·cases e
end
section
variable {P : Program} {w : World} {K : PySem.W.Frag} {mg : Str->Option Value} {base : Heap}
end
section
variable {X : Cx} {k : Nat} {f : Addr} {fd : FuncData} {ps : List Str} {sp : Sp} {x : Str} {p pos : Pos} {e : Expr} {es : List Expr} {t : TA}
end
section
variable {X : Cx} {pins : List (Addr × Obj)} {σ : St} {H : Hp} {s : Shared}
end
section
variable {X : Cx} {r n : Str} {j : Nat} {F Fh : FS} {cs : List Str} {body suite : List Stmt} {b₀ : Stmt} {np hpos pos : Pos}
end
section
variable {X : Cx} {x y r : Str} {p px pr pos pos' : Pos} {e : Expr}
end
def th (a : Addr) (u : HO) (H : Hp) : Hp:=fun b=>if b = a then (H a).map (fun _=>u) else H b
section
variable {X : Cx} {pins : List (Addr × Obj)} {σ : St} {H : Hp} {s : Shared} {a : Addr} {kvs : List (Key × V)} {o : Obj}
end
section
variable {X : Cx} {pins : List (Addr × Obj)} {σ : St} {H : Hp} {s : Shared} {a : Addr} {kvs : List (Key × V)} {o : Obj}
end
section
variable {X : Cx} {tg : Expr} {d : Str} {p pos apos : Pos}
end
section
variable {X : Cx} {F : FS} {B G H : Hp} {δ : En} {σ : St} {o : Out}
end
section
variable {X : Cx} {F : FS} {x d : Str} {p pos pos' apos cpos : Pos} {body : List Stmt}
end
section
variable {X : Cx} {a b e c : Expr} {pos : Pos} {F F' : FS}
end
section
variable {X : Cx} {a b e c : Expr} {pos p1 p2 : Pos} {f : FE}
end
section
variable {K : PySem.W.Frag} {c r : Str} {C R R1 R2 R3 R4 R5 : Addr} {b : Bool}
theorem Jd (h1 : PySem.W.findIn K (.ref C) "__getattribute__" = some (some (.builtin "BaseException.__getattribute__"))) (h2 : PySem.W.findIn K (.ref C) "__getattr__" = some none)
  (h3 : ∀ od,PySem.W.findObj K C od "__class__" = some (.bind (.builtin "getset_descriptor.__get__") (.builtin "object.__class__"))) (h4 : PySem.W.mroIn K C (.type "object") = some true) (h5 : PySem.W.mroIn K C (.type "BaseException") = some true)
  (h6 : PySem.W.kitCls K (.ref C) (.ref C) = some true) : ExcC K C:=⟨h1,h2,h3,h4,h5,h6⟩
theorem W6 (a : PySem.W.nsIn K mainGlobals c = some (some (.ref C))) (e : ExcC K C) (x : PySem.W.excIn K C bmV "ValueError.__new__" = true) : YI K c:=⟨C,a,e,x⟩
end
section
variable {prog : Program} {w : World} {A : Around} {E : Value->Shared->Prop} {h : Heap} {g : Array GenState} {d : Drawn} {t : Nat} {os : OsState} {C fI : Addr}
end
open PySem PySem.Spec PyProof.Rows PySem.Builtin PySem.Builtin.ObjectAttr
section
variable {prog : Program} {w : World} {A : Around} {E : Value->Shared->Prop} {s : Shared} {K : PySem.W.Frag} {e C : Addr} {ox : Obj} {name : Str} {v : Value}
end
section
variable {X : Cx} {o value : Expr} {f : Str} {pos pos' : Pos} {ta tv : TE}
end
section
variable {X : Cx} {e0 : Expr} {np cpos pos : Pos} {c attr : Str} {C f : Addr} {fd : FuncData} {ps : List Str} {k : Nat} {ta : TA}
end
section
variable {X : Cx} {x attr : Str} {e : Expr} {p pos : Pos} {ta : TE}
end
section
variable {X : Cx} {c : En->Option Bool} {F : FS} {e : Expr} {body : List Stmt} {pos : Pos}
end
section
variable {X : Cx}
end
section
variable {X : Cx}
end
section
variable {X : Cx}
end
section
variable {X : Cx} {pins : List (Addr × Obj)} {σ : St} {H : Hp} {s : Shared} {a b : Addr} {A : Around} {E : Value->Shared->Prop} {ts : List (List Key)} {as : List Addr} {k : List Key}
end
section
variable {X : Cx} {pos pos' : Pos} {o i : Expr} {td ty : TE}
end
open Classical in
section
variable {X : Cx} {x : Str} {pos pos' p pt pv : Pos}
end
section
variable {prog : Program} {w : World} {A : Around} {E : Value->Shared->Prop} {s : Shared} {it d : Addr} {i ep : Nat} {es : Array DictEntry}
end
section
variable {X : Cx}
end
open PySem PySem.W PyProof.Rows
section
variable {lt : Nat->Nat->Bool}
def ix (p : Array Nat) (i : Nat) : Nat:=p.getD i 0
end
open PySem PySem.Spec PySem.W PyProof.Rows
mutual
def ltA : D->D->Option Bool
 | .int i,y=>match y with | .int j=>some (decide (i < j)) | _=>none
 | .str x,y=>match y with | .str z=>some (decide (x.cps.toList < z.cps.toList)) | _=>none
 | .tup xs,y=>match y with | .tup ys=>ltAs xs ys | _=>none
 | .lst xs,y=>match y with | .lst ys=>ltAs xs ys | _=>none
 | .non,_=>none
 | .bl _,_=>none
 | .dic _ _,_=>none
 | .obj _ _ _,_=>none
def ltAs : List D->List D->Option Bool
 | [],ys=>some (!ys.isEmpty)
 | x::xs,ys=>match ys with | []=>some false | y::ys=>if eqA x y = true then ltAs xs ys else ltA x y
end
def ltE : D->D->Option D:=fun x y=>if zB 8 x = true /\ zB 8 y = true then (ltA x y).map .bl else none
open PySem
open PySem.AutoSeq1 (wpAny_loadPart')
open PySem.MeetsSeq PySem.MeetsSeq2 PySem.MeetsSeq3 PySem.SeqRoads2 PySem.SeqAt
def qk (A : Around) (s : Shared) (y x : Value) (b : Bool) : Prop:=
 ∀ (prog : Program) (w : World) (E : Value->Shared->Prop) (Q : Value->Shared->Prop),Q (.bool b) s->wpAny (model prog w) A (richCompare .Lt y x) Q E s
def t0 (e t : Nat->Bool) (fin : Bool) : List Nat->Bool
 | []=>fin
 | j::js=>if e j = true then t0 e t fin js else t j
theorem Xu (l b : Addr) (items items2 : Array Value) (n n2 : Nat) (dd dd2 : Option Addr) (sl sl2 : Array (Option Value)) (e t : Nat->Bool) :
  Meets (Builtin.«tuple.__lt__» ⟨[.ref l,.ref b],[]⟩)
   (fun A R s=>s.heap.get? l = some { cls:=.type "tuple",dict:=dd,data:=.seq items n,slots:=sl } /\ s.heap.get? b = some { cls:=.type "tuple",dict:=dd2,data:=.seq items2 n2,slots:=sl2 } /\
    (∀ j (h1 : j < items.size) (h2 : j < items2.size),EqAt A.in1 s items[j] items2[j] (e j)) /\ (∀ j (h1 : j < items.size) (h2 : j < items2.size),(∀ m,m < j->e m = true)->e j = false->qk A.in1 s items[j] items2[j] (t j)) /\
    R (.ok (.ret (.bool (t0 e t (decide (items.size < items2.size)) (List.range (min items.size items2.size)))))) s):=
 .of_wp fun prog w A R s h=>by
  obtain ⟨hp,g,d,tk,os⟩:=s; obtain ⟨hl,hb,he,ht,h⟩:=h
  have f2:=AutoSeq1.sub_tuple_tuple
  have hZ : (items.toList.zip items2.toList).length = min items.size items2.size:=by simp
  wp_walk using wpAny_loadPart' hl,wpAny_loadPart' hb,wpAny_forIn_list _ (fun rest b s'=>b.1 = none /\ s' = ⟨hp,g,d,tk,os⟩ /\ ∃ i,rest = (items.toList.zip items2.toList).drop i /\ (∀ m,m < i->e m = true) /\
   R (.ok (.ret (.bool (t0 e t (decide (items.size < items2.size)) ((List.range (min items.size items2.size)).drop i))))) ⟨hp,g,d,tk,os⟩) _
  case turn=>
   rintro ⟨y,x⟩ rest b s' ⟨hb',rfl,i,hz,hal,hR⟩
   have hlt : i < (items.toList.zip items2.toList).length:=by
    rcases Nat.lt_or_ge i (items.toList.zip items2.toList).length with h' | h'
    ·exact h'
    ·rw [List.drop_of_length_le h'] at hz; cases hz
   have hm : i < min items.size items2.size:=hZ ▸ hlt
   have h1 : i < items.size:=Nat.lt_of_lt_of_le hm (Nat.min_le_left _ _)
   have h2 : i < items2.size:=Nat.lt_of_lt_of_le hm (Nat.min_le_right _ _)
   rw [List.drop_eq_getElem_cons hlt] at hz
   injection hz with hyx hrest
   have hy : y = items[i]:=by have:=congrArg Prod.fst hyx; simpa using this
   have hx : x = items2[i]:=by have:=congrArg Prod.snd hyx; simpa using this
   subst hy hx
   have hd : (List.range (min items.size items2.size)).drop i = i::(List.range (min items.size items2.size)).drop (i + 1):=by simp [List.drop_eq_getElem_cons,hm]
   rw [hd] at hR
   refine wpAny_bind (he i h1 h2 prog w _ _ ?_)
   cases hy : e i with
   | true=>
    have hR : R (.ok (.ret (.bool (t0 e t (decide (items.size < items2.size)) ((List.range (min items.size items2.size)).drop (i + 1)))))) ⟨hp,g,d,tk,os⟩:=by
     simpa only [t0,hy,if_true] using hR
    wp_walk
    exact ⟨rfl,rfl,i + 1,hrest,fun m hm'=>(Nat.lt_succ_iff_lt_or_eq.mp hm').elim (hal m) fun z=>z ▸ hy,hR⟩
   | false=>
    have hR : R (.ok (.ret (.bool (t i)))) ⟨hp,g,d,tk,os⟩:=by
     simpa only [t0,hy,Bool.false_eq_true,if_false] using hR
    generalize hRC : richCompare = RC
    wp_walk
    subst hRC
    refine ht i h1 h2 hal hy prog w _ _ ?_
    wp_walk
    exact ⟨_,rfl,hR⟩
  case fin=>
   rintro ⟨b1,b2⟩ s' ⟨hb',rfl,i,hz,hal,hR⟩
   simp only at hb'
   subst hb'
   have hge : min items.size items2.size <= i:=by
    rcases Nat.lt_or_ge i (items.toList.zip items2.toList).length with h' | h'
    ·rw [List.drop_eq_getElem_cons h'] at hz; cases hz
    ·exact hZ ▸ h'
   rw [List.drop_of_length_le (by simpa using hge)] at hR
   wp_walk
   exact ⟨_,rfl,by simpa [Builtin.Tuple.tupleCompareSizes,t0] using hR⟩
  case h=>
   exact ⟨rfl,rfl,0,rfl,fun m hm=>absurd hm (Nat.not_lt_zero m),by simpa using h⟩
theorem W7 (l b : Addr) (items items2 : Array Value) (n n2 : Nat) (dd dd2 : Option Addr) (sl sl2 : Array (Option Value)) (e t : Nat->Bool) (k : Nat) :
  ∀ i : Nat,min items.size items2.size - i = k->i <= min items.size items2.size->(∀ m,m < i->e m = true)->Meets (Builtin.«list.__eq__.loop» ⟨[.ref l,.ref b,rawInt i,rawInt 0],[]⟩)
   (fun A R s=>s.heap.get? l = some { cls:=.type "list",dict:=dd,data:=.seq items n,slots:=sl } /\ s.heap.get? b = some { cls:=.type "list",dict:=dd2,data:=.seq items2 n2,slots:=sl2 } /\
    (∀ j (h1 : j < items.size) (h2 : j < items2.size),EqAt A.in1 s items[j] items2[j] (e j)) /\ (∀ j (h1 : j < items.size) (h2 : j < items2.size),(∀ m,m < j->e m = true)->e j = false->qk A.in1 s items[j] items2[j] (t j)) /\
    R (.ok (.ret (.bool (t0 e t (decide (items.size < items2.size)) ((List.range (min items.size items2.size)).drop i))))) s):=by
 induction k with
 | zero=>
  intro i hk hle hal prog w A R s h
  obtain ⟨hp,g,d,tk,os⟩:=s; obtain ⟨hl,hb,he,ht,h⟩:=h
  wp_walk using wpAny_loadPart' hl,wpAny_loadPart' hb
  have hd : (List.range (min items.size items2.size)).drop i = []:=by simp; omega
  rw [hd] at h
  have hR : R (.ok (.ret (.bool (decide (items.size < items2.size))))) ⟨hp,g,d,tk,os⟩:=h
  by_cases c : i < items.size
  ·have hi1 : items[((i : Nat) : Int).toNat]? = some items[i]:=by simp [c]
   have hi2 : items2[((i : Nat) : Int).toNat]? = none:=by simp; omega
   rw [hi1,hi2]
   wp_walk using wpAny_loadPart' hl,wpAny_loadPart' hb
   exact hR
  ·have hi1 : items[((i : Nat) : Int).toNat]? = none:=by simp; omega
   rw [hi1]
   by_cases c2 : i < items2.size
   ·have hi2 : items2[((i : Nat) : Int).toNat]? = some items2[i]:=by simp [c2]
    rw [hi2]
    wp_walk using wpAny_loadPart' hl,wpAny_loadPart' hb
    exact hR
   ·have hi2 : items2[((i : Nat) : Int).toNat]? = none:=by simp; omega
    rw [hi2]
    wp_walk using wpAny_loadPart' hl,wpAny_loadPart' hb
    exact hR
 | succ k ih=>
  intro i hk hle hal prog w A R s h
  obtain ⟨hp,g,d,tk,os⟩:=s; obtain ⟨hl,hb,he,ht,h⟩:=h
  wp_walk using wpAny_loadPart' hl,wpAny_loadPart' hb
  have hlt : i < items.size:=by omega
  have hlt2 : i < items2.size:=by omega
  have hi1 : items[((i : Nat) : Int).toNat]? = some items[i]:=by simp [hlt]
  have hi2 : items2[((i : Nat) : Int).toNat]? = some items2[i]:=by simp [hlt2]
  have hm : i < min items.size items2.size:=by omega
  have hd : (List.range (min items.size items2.size)).drop i = i::(List.range (min items.size items2.size)).drop (i + 1):=by simp [List.drop_eq_getElem_cons,hm]
  have hc : ((i : Int) + 1) = ((i + 1 : Nat) : Int):=by push_cast; rfl
  rw [hd] at h
  rw [hi1,hi2]
  refine wpAny_bind (he i hlt hlt2 prog w _ _ ?_)
  cases hb' : e i with
  | true=>
   have h : R (.ok (.ret (.bool (t0 e t (decide (items.size < items2.size)) ((List.range (min items.size items2.size)).drop (i + 1)))))) ⟨hp,g,d,tk,os⟩:=by
    simpa only [t0,hb',if_true] using h
   wp_walk
   rw [hc]
   exact ⟨plainId_quiet plain_eq_loop _,codeAny_builtin entry_eq_loop (by
    rw [Around.under_plainId plain_eq_loop _]
    exact ih (i + 1) (by omega) (by omega) (fun m hm'=>(Nat.lt_succ_iff_lt_or_eq.mp hm').elim (hal m) fun z=>z ▸ hb') prog w A R _ ⟨hl,hb,he,ht,h⟩)⟩
  | false=>
   have h : R (.ok (.ret (.bool (t i)))) ⟨hp,g,d,tk,os⟩:=by
    simpa only [t0,hb',Bool.false_eq_true,if_false] using h
   generalize hRC : richCompare = RC
   wp_walk using wpAny_loadPart' hl,wpAny_loadPart' hb
   rw [hi1,hi2]
   wp_walk
   subst hRC
   refine ht i hlt hlt2 hal hb' prog w _ _ ?_
   wp_walk
   exact h
theorem W8 (l b : Addr) (items items2 : Array Value) (n n2 : Nat) (dd dd2 : Option Addr) (sl sl2 : Array (Option Value)) (e t : Nat->Bool) :
  Meets (Builtin.«list.__lt__» ⟨[.ref l,.ref b],[]⟩)
   (fun A R s=>s.heap.get? l = some { cls:=.type "list",dict:=dd,data:=.seq items n,slots:=sl } /\ s.heap.get? b = some { cls:=.type "list",dict:=dd2,data:=.seq items2 n2,slots:=sl2 } /\
    (∀ j (h1 : j < items.size) (h2 : j < items2.size),EqAt A.in1 s items[j] items2[j] (e j)) /\ (∀ j (h1 : j < items.size) (h2 : j < items2.size),(∀ m,m < j->e m = true)->e j = false->qk A.in1 s items[j] items2[j] (t j)) /\
    R (.ok (.ret (.bool (t0 e t (decide (items.size < items2.size)) (List.range (min items.size items2.size)))))) s):=by
 intro prog w A R s h
 obtain ⟨hp,g,d,tk,os⟩:=s; obtain ⟨hl,hb,he,ht,h⟩:=h
 have f3:=AutoSeq1.sub_list_list
 wp_walk using wpAny_loadPart' hl,wpAny_loadPart' hb
 exact ⟨plainId_quiet plain_eq_loop _,codeAny_builtin entry_eq_loop (by
  rw [Around.under_plainId plain_eq_loop _]
  exact W7 l b items items2 n n2 dd dd2 sl sl2 e t _ 0 rfl (Nat.zero_le _) (fun m hm=>absurd hm (Nat.not_lt_zero m)) prog w A R _ ⟨hl,hb,he,ht,by simpa using h⟩)⟩
section
variable {A : Around} {s : Shared}
theorem qk.lists {l b : Addr} {items items2 : Array Value} {e t : Nat->Bool} (hl : s.heap.IsList l items) (hb : s.heap.IsList b items2) (hu : A.units < cLine)
  (he : ∀ j (h1 : j < items.size) (h2 : j < items2.size),EqAt A.in1 s items[j] items2[j] (e j)) (ht : ∀ j (h1 : j < items.size) (h2 : j < items2.size),(∀ m,m < j->e m = true)->e j = false->qk A.in1 s items[j] items2[j] (t j)) :
  qk A s (.ref l) (.ref b) (t0 e t (decide (items.size < items2.size)) (List.range (min items.size items2.size))):=fun prog w E Q h=>by
 obtain ⟨⟨cls,dd,data,sl⟩,ho,hc,n,hd⟩:=id hl
 obtain ⟨⟨cls2,dd2,data2,sl2⟩,ho2,hc2,n2,hd2⟩:=id hb
 simp only at hc hd hc2 hd2
 subst hc hd hc2 hd2
 exact richCompare_meets_room (op:=.Lt) ⟨_,ho,rfl⟩ ⟨_,ho2,rfl⟩ F.slot_list_lt F.entry_list_lt (F.args_list_lt_2 _ _) (W8 l b items items2 n n2 dd dd2 sl sl2 e t)
  ⟨ho,ho2,he,ht,show Value.bool _ ≠ Value.notImplemented /\ Q (.bool _) s from ⟨(fun x=>nomatch x),h⟩⟩ hu
theorem qk.tuples {l b : Addr} {items items2 : Array Value} {e t : Nat->Bool} (hl : s.heap.IsTuple l items) (hb : s.heap.IsTuple b items2) (hu : A.units < cLine)
  (he : ∀ j (h1 : j < items.size) (h2 : j < items2.size),EqAt A.in1 s items[j] items2[j] (e j)) (ht : ∀ j (h1 : j < items.size) (h2 : j < items2.size),(∀ m,m < j->e m = true)->e j = false->qk A.in1 s items[j] items2[j] (t j)) :
  qk A s (.ref l) (.ref b) (t0 e t (decide (items.size < items2.size)) (List.range (min items.size items2.size))):=fun prog w E Q h=>by
 obtain ⟨⟨cls,dd,data,sl⟩,ho,hc,n,hd⟩:=id hl
 obtain ⟨⟨cls2,dd2,data2,sl2⟩,ho2,hc2,n2,hd2⟩:=id hb
 simp only at hc hd hc2 hd2
 subst hc hd hc2 hd2
 exact richCompare_meets_room (op:=.Lt) ⟨_,ho,rfl⟩ ⟨_,ho2,rfl⟩ F.slot_tuple_lt F.entry_tuple_lt (F.args_tuple_lt_2 _ _) (Xu l b items items2 n n2 dd dd2 sl sl2 e t)
  ⟨ho,ho2,he,ht,show Value.bool _ ≠ Value.notImplemented /\ Q (.bool _) s from ⟨(fun x=>nomatch x),h⟩⟩ hu
theorem qk.int (a b : Int) (t u : Tok) : qk A s (.int a t) (.int b u) (decide (a < b)):=fun prog w E Q h=>PyProof.Rows.lt_int h
theorem qk.str (a b : Str) (t u : Tok) : qk A s (.str a t) (.str b u) (decide (a.cps.toList < b.cps.toList)):=fun prog w E Q h=>PyProof.Rows.lt_str h
end
theorem YJ (e t : Nat->Bool) (fin : Bool) (f : Nat->Nat) : ∀ l : List Nat,t0 e t fin (l.map f) = t0 (fun j=>e (f j)) (fun j=>t (f j)) fin l
 | []=>rfl
 | j::l=>by
  simp only [List.map_cons,t0]
  rw [YJ e t fin f l]
def eAt (xs ys : List D) (j : Nat) : Bool:=eqA (xs.getD j .non) (ys.getD j .non)
def tAt (xs ys : List D) (j : Nat) : Bool:=(ltA (xs.getD j .non) (ys.getD j .non)).getD false
theorem jc : ∀ {xs ys : List D} {b : Bool},ltAs xs ys = some b->t0 (eAt xs ys) (tAt xs ys) (decide (xs.length < ys.length)) (List.range (min xs.length ys.length)) = b
 | [],ys,b,h=>by
  simp only [ltAs,Option.some.injEq] at h
  simp only [List.length_nil,Nat.zero_min,List.range_zero,t0]
  rw [<- h]
  cases ys <;> simp
 | x::xs,[],b,h=>by
  simp only [ltAs,Option.some.injEq] at h
  simp only [List.length_nil,Nat.min_zero,List.range_zero,t0]
  rw [<- h]
  simp
 | x::xs,y::ys,b,h=>by
  simp only [ltAs] at h
  have e1 : min (x::xs).length (y::ys).length = min xs.length ys.length + 1:=by simp only [List.length_cons]; omega
  rw [e1,List.range_succ_eq_map,t0,YJ]
  by_cases c : eqA x y = true
  ·rw [if_pos c] at h
   rw [if_pos (show eAt (x::xs) (y::ys) 0 = true from c)]
   have:=jc h
   have e2 : decide ((x::xs).length < (y::ys).length) = decide (xs.length < ys.length):=by simp only [List.length_cons,Nat.add_lt_add_iff_right]
   rw [e2]
   exact this
  ·rw [if_neg c] at h
   rw [if_neg (show ¬ eAt (x::xs) (y::ys) 0 = true from c)]
   show (ltA x y).getD false = b
   rw [h]; rfl
theorem ql : ∀ {xs ys : List D} {b : Bool},ltAs xs ys = some b->∀ j,j < xs.length->j < ys.length->(∀ m,m < j->eAt xs ys m = true)->eAt xs ys j = false->ltA (xs.getD j .non) (ys.getD j .non) = some (tAt xs ys j)
 | [],ys,b,h,j,h1,h2,ha,hf=>absurd h1 (Nat.not_lt_zero j)
 | x::xs,[],b,h,j,h1,h2,ha,hf=>absurd h2 (Nat.not_lt_zero j)
 | x::xs,y::ys,b,h,0,h1,h2,ha,hf=>by
  simp only [ltAs] at h
  rw [if_neg (show ¬ eqA x y = true from fun z=>by rw [show eAt (x::xs) (y::ys) 0 = true from z] at hf; cases hf)] at h
  show ltA x y = some ((ltA x y).getD false)
  rw [h]; rfl
 | x::xs,y::ys,b,h,j + 1,h1,h2,ha,hf=>by
  simp only [ltAs] at h
  rw [if_pos (show eqA x y = true from ha 0 (Nat.zero_lt_succ j))] at h
  exact ql h j (by simpa using h1) (by simpa using h2) (fun m hm=>ha (m + 1) (by omega)) hf
section
variable {X : Cx} {pins : List (Addr × Obj)} {σ : St} {H : Hp} {s : Shared}
theorem za4 (I : Inv X pins σ H s) : ∀ (n : Nat) {x y : D} {v v' : V} {u u' : Value} {A : Around} {b : Bool},zB n x = true->zB n y = true->ltA x y = some b->Rep X.K H x v->Rep X.K H y v'->yp v u->yp v' u'->A.units + n < cLine->qk A s u u' b:=by
 intro n
 have ff : ∀ {x y : D} {v v' : V} {u u' : Value} {A : Around} {b : Bool},(∀ xs,x ≠ .tup xs)->(∀ xs,x ≠ .lst xs)->ltA x y = some b->Rep X.K H x v->Rep X.K H y v'->yp v u->yp v' u'->qk A s u u' b:=by
  intro x y v v' u u' A b n1 n2 h rx ry r r'
  cases x with
  | tup xs=>exact absurd rfl (n1 xs)
  | lst xs=>exact absurd rfl (n2 xs)
  | non=>simp only [ltA] at h; cases h
  | bl _=>simp only [ltA] at h; cases h
  | dic _ _=>simp only [ltA] at h; cases h
  | obj _ _ _=>simp only [ltA] at h; cases h
  | int i=>
   cases y <;> simp only [ltA] at h <;> cases h
   simp only [Rep] at rx ry
   subst rx ry
   obtain ⟨t,rfl⟩:=r
   obtain ⟨t',rfl⟩:=r'
   exact qk.int _ _ _ _
  | str i=>
   cases y <;> simp only [ltA] at h <;> cases h
   simp only [Rep] at rx ry
   subst rx ry
   obtain ⟨t,rfl⟩:=r
   obtain ⟨t',rfl⟩:=r'
   exact qk.str _ _ _ _
 induction n with
 | zero=>
  intro x y v v' u u' A b px py h rx ry r r' hu
  refine ff ?_ ?_ h rx ry r r'
  ·intro xs e; subst e; cases px
  ·intro xs e; subst e; cases px
 | succ n ih=>
  intro x y v v' u u' A b px py h rx ry r r' hu
  have items : ∀ {xs ys : List D} {vs us : List V} {its its2 : List Value},ltAs xs ys = some b->xs.all (zB n) = true->ys.all (zB n) = true->RepL X.K H xs vs->RepL X.K H ys us->yn vs its->yn us its2->
    ∀ j (h1 : j < its.toArray.size) (h2 : j < its2.toArray.size),(∀ m,m < j->eAt xs ys m = true)->eAt xs ys j = false->qk A.in1 s its.toArray[j] its2.toArray[j] (tAt xs ys j):=fun {xs ys vs us its its2} hlt p1 p2 r1 r2 v1 v2 j h1 h2 ha hf=>by
   have l1:=r1.length
   have l2:=r2.length
   have l3:=v1.length
   have l4:=v2.length
   have j1 : j < xs.length:=by simp at h1; omega
   have j2 : j < ys.length:=by simp at h2; omega
   have e1 : xs[j]? = some (xs.getD j .non):=by rw [List.getD_eq_getElem?_getD,List.getElem?_eq_getElem j1]; rfl
   have e2 : ys[j]? = some (ys.getD j .non):=by rw [List.getD_eq_getElem?_getD,List.getElem?_eq_getElem j2]; rfl
   obtain ⟨w1,g1,q1⟩:=r1.get e1
   obtain ⟨w2,g2,q2⟩:=r2.get e2
   obtain ⟨u1,k1,k2⟩:=v1.get g1
   obtain ⟨u2,k3,k4⟩:=v2.get g2
   have t1 : its.toArray[j] = u1:=by
    obtain ⟨_,z⟩:=List.getElem?_eq_some_iff.mp k1
    simpa using z
   have t2 : its2.toArray[j] = u2:=by
    obtain ⟨_,z⟩:=List.getElem?_eq_some_iff.mp k3
    simpa using z
   rw [t1,t2]
   exact ih (List.all_eq_true.mp p1 _ (List.mem_of_getElem? e1)) (List.all_eq_true.mp p2 _ (List.mem_of_getElem? e2)) (ql hlt j j1 j2 ha hf) q1 q2 k2 k4 (by rw [z4]; omega)
  cases x with
  | tup xs=>
   cases y <;> simp only [ltA] at h <;> try cases h
   rename_i ys
   simp only [Rep] at rx ry
   obtain ⟨a,vs,rfl,h1,h2⟩:=rx
   obtain ⟨b',us,rfl,h3,h4⟩:=ry
   cases r
   cases r'
   obtain ⟨its,v1,p1,_⟩:=I.tuple h1
   obtain ⟨its2,v2,p2,_⟩:=I.tuple h3
   have q:=qk.tuples (A:=A) (e:=eAt xs ys) (t:=tAt xs ys) p1 p2 (by omega) (vL I n (by rw [z4]; omega) px py h2 h4 v1 v2) (items h px py h2 h4 v1 v2)
   have z1 : its.toArray.size = xs.length:=by simp [h2.length,v1.length]
   have z2 : its2.toArray.size = ys.length:=by simp [h4.length,v2.length]
   rw [z1,z2,jc h] at q
   exact q
  | lst xs=>
   cases y <;> simp only [ltA] at h <;> try cases h
   rename_i ys
   simp only [Rep] at rx ry
   obtain ⟨a,vs,rfl,h1,h2⟩:=rx
   obtain ⟨b',us,rfl,h3,h4⟩:=ry
   cases r
   cases r'
   obtain ⟨its,v1,p1,_⟩:=I.list h1
   obtain ⟨its2,v2,p2,_⟩:=I.list h3
   have q:=qk.lists (A:=A) (e:=eAt xs ys) (t:=tAt xs ys) p1.isList p2.isList (by omega) (vL I n (by rw [z4]; omega) px py h2 h4 v1 v2) (items h px py h2 h4 v1 v2)
   have z1 : its.toArray.size = xs.length:=by simp [h2.length,v1.length]
   have z2 : its2.toArray.size = ys.length:=by simp [h4.length,v2.length]
   rw [z1,z2,jc h] at q
   exact q
  | _=>exact ff (fun _ z=>by cases z) (fun _ z=>by cases z) h rx ry r r'
end
section
variable {X : Cx}
def zdF (K : PySem.W.Frag) : R2:=fun v u H Q=>∃ x y b,Rep K H x v /\ Rep K H y u /\ zB 8 x = true /\ zB 8 y = true /\ ltA x y = some b /\ Q (.bl b) H
theorem za5 (hu : X.A.units + 20 < cLine) : OpR X (compareOp .Lt) (zdF X.K):=by
 intro pins s σ H x y v u Q I rx ry h
 obtain ⟨dx,dy,b,r1,r2,p1,p2,e,q⟩:=h
 exact za4 I 8 p1 p2 e r1 r2 rx ry (by omega) X.prog X.w _ _ ⟨.bl b,H,I,rfl,q⟩
theorem W9 (hu : X.A.units + 20 < cLine) : OpD X (compareOp .Lt) ltE:=by
 refine ⟨_,za5 hu,fun G H x y v u d Q sG rx ry e k=>?_⟩
 unfold ltE at e
 split at e
 ·rename_i hc
  obtain ⟨b,e1,rfl⟩:=omE e
  exact ⟨x,y,b,rx.all sG,ry.all sG,hc.1,hc.2,e1,k _ G H (Grow.refl sG) (by simp [Rep])⟩
 ·cases e
end
section
variable {X : Cx} {pins : List (Addr × Obj)} {σ : St} {H : Hp} {s : Shared}
end
section
variable {X : Cx} {pins : List (Addr × Obj)} {σ : St} {H : Hp} {s : Shared}
end
theorem kG {α : Type} (p : α->Bool) : ∀ (xs : List α),ZF (xs.map fun x=>D.bl (p x)) = some (xs.map p)
 | []=>rfl
 | x::xs=>by
  show (ZF (xs.map fun x=>D.bl (p x))).map (p x::·) = _
  rw [kG p xs]
  rfl
def Op {α : Type} (o : Option α) (R : α->Prop) : Prop:=∃ d,o = some d /\ R d
def So (o : Option Out) (N : En->Prop) (T : Rs->En->Prop) : Prop:=∃ u,o = some u /\ match u with | .nx δ=>N δ | .rt r δ=>T r δ | _=>False
theorem op_some {α : Type} {d : α} {R : α->Prop} (k : R d) : Op (some d) R:=⟨d,rfl,k⟩
theorem Op.eq {α : Type} {o : Option α} {d : α} (h : Op o fun x=>x = d) : o = some d:=by obtain ⟨x,e,rfl⟩:=h; exact e
theorem zt {α : Type} {o : Option α} {d : α} {R : α->Prop} (e : o = some d) (h : R d) : Op o R:=⟨d,e,h⟩
theorem So.mono {o : Option Out} {N N' : En->Prop} {T T' : Rs->En->Prop} (h : So o N T) (k : ∀ δ,N δ->N' δ) (k' : ∀ r δ,T r δ->T' r δ) : So o N' T':=by
 obtain ⟨u,e,h⟩:=h
 refine ⟨u,e,?_⟩
 cases u with
 | nx δ=>exact k δ h
 | rt r δ=>exact k' r δ h
 | bk δ=>exact h
 | ct δ=>exact h
 | ex c δ=>exact h
def J2 (R : Bool->Prop) : D->Prop | .bl b=>R b | _=>False
def za6 (R : Int->Prop) : D->Prop | .int b=>R b | _=>False
def zb7 (R : List D->Prop) : D->Prop | .lst xs=>R xs | .tup xs=>R xs | .str z=>R (signs z) | _=>False
def zcH (R : D->Prop) (r : Rs) : Prop:=R r.d
def TU (N : En->Prop) (δ : En) (i : Nat) (x : Sl) : Prop:=N (δ.set i (some x))
def zdg (N : En->Prop) (δ : En) (i : Nat) (r : Rs) : Prop:=N (δ.set i (some r.sl))
theorem pub_sh {R : D->Prop} {d : D} (k : R d) : zcH R (.sh d):=k
theorem pub_l {R : D->Prop} {xs : List D} (k : R (.lst xs)) : zcH R (.fr (.lst xs)):=k
theorem setK {N : En->Prop} {δ δ' : En} {i : Nat} {x : Sl} (e : δ.set i (some x) = δ') (k : N δ') : TU N δ i x:=by unfold TU; rw [e]; exact k
theorem setR_fr {N : En->Prop} {δ : En} {i : Nat} {m : Mo} (k : TU N δ i (.pv m none)) : zdg N δ i (.fr m):=k
theorem ite_t {A B : Prop} (h : A) : if true = true then A else B:=h
theorem ite_f {A B : Prop} (h : B) : if false = true then A else B:=h
theorem ite_rt {b : Bool} {A B : Prop} (e : b = true) (h : A) : if b = true then A else B:=by rw [if_pos e]; exact h
theorem ite_rf {b : Bool} {A B : Prop} (e : b = false) (h : B) : if b = true then A else B:=by rw [if_neg (by rw [e]; exact Bool.false_ne_true)]; exact h
theorem isBl_k {R : Bool->Prop} {b : Bool} (k : R b) : J2 R (.bl b):=k
theorem isIn_k {R : Int->Prop} {b : Int} (k : R b) : za6 R (.int b):=k
theorem isSq_l {R : List D->Prop} {b : List D} (k : R b) : zb7 R (.lst b):=k
theorem isSq_t {R : List D->Prop} {b : List D} (k : R b) : zb7 R (.tup b):=k
theorem isSq_s {R : List D->Prop} {b : Str} (k : R (signs b)) : zb7 R (.str b):=k
section
variable {f g h : FE} {fr : FR} {F F' : FS} {c c' : En->Option Bool} {δ : En} {i j : Nat} {ga : En->Option (List D)} {R : D->Prop} {Rr : Rs->Prop} {N : En->Prop} {T : Rs->En->Prop}
theorem op_f2 {o : D->D->Option D} (k : Op (f δ) fun x=>Op (g δ) fun y=>Op (o x y) R) : Op (f2 o f g δ) R:=by
 obtain ⟨x,e1,y,e2,z,e3,k⟩:=k
 exact ⟨z,by unfold f2; rw [e1,Option.bind_some,e2,Option.bind_some,e3],k⟩
theorem op_f1 {o : D->Option D} (k : Op (f δ) fun x=>Op (o x) R) : Op (f1 o f δ) R:=by
 obtain ⟨x,e1,z,e3,k⟩:=k
 exact ⟨z,by unfold f1; rw [e1,Option.bind_some,e3],k⟩
theorem Je {x : Sl} (e : δ[i]? = some (some x)) (k : R x.d) (h : x.ok = true:=by rfl) : Op (zj i δ) R:=⟨x.d,by unfold zj; rw [e]; exact if_pos h,k⟩
theorem op_var {x : D} (e : δ[i]? = some (some (.sh x))) (k : R x) : Op (zU i δ) R:=⟨x,by unfold zU; rw [e],k⟩
theorem op_varBs {d : D} (e : δ[i]? = some (some (.sh d))) (k : R d) : Op (zj i δ) R:=Je e k
theorem op_C {d : D} (k : R d) : Op (fC d δ) R:=⟨d,rfl,k⟩
theorem op_nil {R : List D->Prop} (k : R []) : Op (fNil δ) R:=⟨_,rfl,k⟩
theorem op_cons {R : List D->Prop} (k : Op (f δ) fun d=>Op (ga δ) fun ds=>R (d::ds)) : Op (zi f ga δ) R:=by
 obtain ⟨x,e1,y,e2,k⟩:=k
 exact ⟨_,by unfold zi; rw [e1,Option.bind_some,e2,Option.bind_some],k⟩
theorem op_callR {M : List D->Option Rs} (k : Op (ga δ) fun ds=>Op (M ds) Rr) : Op (zr M ga δ) Rr:=by
 obtain ⟨x,e1,y,e2,k⟩:=k
 exact ⟨_,by unfold zr; rw [e1,Option.bind_some,e2],k⟩
theorem op_callB {M : List D->Option D} (k : Op (ga δ) fun ds=>Op (M ds) R) : Op (zH M ga δ) R:=by
 obtain ⟨x,e1,y,e2,k⟩:=k
 exact ⟨_,by unfold zH; rw [e1,Option.bind_some,e2],k⟩
theorem op_pub (k : Op (fr δ) (zcH R)) : Op (zM fr δ) R:=by
 obtain ⟨x,e1,k⟩:=k
 exact ⟨_,by unfold zM; rw [e1]; rfl,k⟩
theorem op_sh (k : Op (f δ) fun d=>Rr (.sh d)) : Op (fSh f δ) Rr:=by
 obtain ⟨x,e1,k⟩:=k
 exact ⟨_,by unfold fSh; rw [e1]; rfl,k⟩
theorem op_fB {R : Bool->Prop} (k : Op (f δ) (J2 R)) : Op (fB f δ) R:=by
 obtain ⟨x,e1,k⟩:=k
 cases x with
 | bl b=>exact ⟨b,by unfold fB; rw [e1],k⟩
 | _=>exact k.elim
theorem op_f3 {o o' : D->D->Option D} (k : Op (f δ) fun x=>Op (g δ) fun y=>Op (o x y) (J2 fun z=>if z = true then Op (h δ) fun w=>Op (o' y w) R else R (.bl false))) : Op (f3 o o' f g h δ) R:=by
 obtain ⟨x,e1,y,e2,z,e3,k⟩:=k
 cases z with
 | bl b=>
  cases b with
  | true=>
   obtain ⟨w,e4,v,e5,k⟩:=(show Op (h δ) fun w=>Op (o' y w) R from k)
   exact ⟨v,by unfold f3; rw [e1,Option.bind_some,e2,Option.bind_some,e3,Option.bind_some]; dsimp only; rw [e4,Option.bind_some,e5],k⟩
  | false=>exact ⟨_,by unfold f3; rw [e1,Option.bind_some,e2,Option.bind_some,e3,Option.bind_some],k⟩
 | _=>exact k.elim
theorem op_bAnd {R : Bool->Prop} (k : Op (c δ) fun x=>if x = true then Op (c' δ) R else R false) : Op (JY c c' δ) R:=by
 obtain ⟨x,e1,k⟩:=k
 cases x with
 | true=>obtain ⟨y,e2,k⟩:=(show Op (c' δ) R from k); exact ⟨y,by unfold JY; rw [e1,Option.bind_some,if_pos rfl,e2],k⟩
 | false=>exact ⟨false,by unfold JY; rw [e1,Option.bind_some,if_neg Bool.false_ne_true],k⟩
theorem op_bOr {R : Bool->Prop} (k : Op (c δ) fun x=>if x = true then R true else Op (c' δ) R) : Op (bOr c c' δ) R:=by
 obtain ⟨x,e1,k⟩:=k
 cases x with
 | false=>obtain ⟨y,e2,k⟩:=(show Op (c' δ) R from k); exact ⟨y,by unfold bOr; rw [e1,Option.bind_some,if_neg Bool.false_ne_true,e2],k⟩
 | true=>exact ⟨true,by unfold bOr; rw [e1,Option.bind_some,if_pos rfl],k⟩
theorem op_bNot {R : Bool->Prop} (k : Op (c δ) fun x=>R (!x)) : Op (xO c δ) R:=by
 obtain ⟨x,e1,k⟩:=k
 exact ⟨_,by unfold xO; rw [e1]; rfl,k⟩
theorem op_fAnd (k : Op (f δ) (J2 fun x=>if x = true then Op (g δ) R else R (.bl false))) : Op (Yy f g δ) R:=by
 obtain ⟨x,e1,k⟩:=k
 cases x with
 | bl b=>
  cases b with
  | true=>obtain ⟨y,e2,k⟩:=(show Op (g δ) R from k); exact ⟨y,by unfold Yy; rw [e1]; exact e2,k⟩
  | false=>exact ⟨_,by unfold Yy; rw [e1],k⟩
 | _=>exact k.elim
theorem op_fOr (k : Op (f δ) (J2 fun x=>if x = true then R (.bl true) else Op (g δ) R)) : Op (fOr f g δ) R:=by
 obtain ⟨x,e1,k⟩:=k
 cases x with
 | bl b=>
  cases b with
  | false=>obtain ⟨y,e2,k⟩:=(show Op (g δ) R from k); exact ⟨y,by unfold fOr; rw [e1]; exact e2,k⟩
  | true=>exact ⟨_,by unfold fOr; rw [e1],k⟩
 | _=>exact k.elim
theorem op_fNot (k : Op (f δ) (J2 fun x=>R (.bl (!x)))) : Op (JZ f δ) R:=by
 obtain ⟨x,e1,k⟩:=k
 cases x with
 | bl b=>exact ⟨_,by unfold JZ; rw [e1],k⟩
 | _=>exact k.elim
theorem op_fIf (k : Op (c δ) fun x=>if x = true then Op (f δ) R else Op (g δ) R) : Op (fIf c f g δ) R:=by
 obtain ⟨x,e1,k⟩:=k
 cases x with
 | true=>obtain ⟨y,e2,k⟩:=(show Op (f δ) R from k); exact ⟨y,by unfold fIf; rw [e1,Option.bind_some,if_pos rfl,e2],k⟩
 | false=>obtain ⟨y,e2,k⟩:=(show Op (g δ) R from k); exact ⟨y,by unfold fIf; rw [e1,Option.bind_some,if_neg Bool.false_ne_true,e2],k⟩
theorem op_tup (k : Op (ga δ) fun ds=>ds.length <= sizeLine /\ R (.tup ds)) : Op (xZ ga δ) R:=by
 obtain ⟨x,e1,k0,k⟩:=k
 exact ⟨_,by unfold xZ; rw [e1,Option.bind_some,if_pos k0],k⟩
theorem op_lstR (k : Op (ga δ) fun ds=>ds.length <= sizeLine /\ Rr (.fr (.lst ds))) : Op (wD ga δ) Rr:=by
 obtain ⟨x,e1,k0,k⟩:=k
 exact ⟨_,by unfold wD; rw [e1,Option.bind_some,if_pos k0],k⟩
theorem op_is {s : String} (k : Op (f δ) fun d=>TJ d = false /\ R (.bl (TK s d))) : Op (fIs s f δ) R:=by
 obtain ⟨x,e1,k0,k⟩:=k
 exact ⟨_,by unfold fIs; rw [e1,Option.bind_some,k0]; rfl,k⟩
theorem op_oInt {R : Option Int->Prop} (k : Op (f δ) (za6 fun i=>R (some i))) : Op (wU f δ) R:=by
 obtain ⟨x,e1,k⟩:=k
 cases x with
 | int b=>exact ⟨_,by unfold wU; rw [e1],k⟩
 | _=>exact k.elim
theorem op_sl {l h : En->Option (Option Int)} (k : Op (f δ) fun x=>Op (l δ) fun lo=>Op (h δ) fun hi=>Op (slA x lo hi) Rr) : Op (uN f l h δ) Rr:=by
 obtain ⟨x,e1,y,e2,z,e3,w,e4,k⟩:=k
 exact ⟨w,by unfold uN; rw [e1,Option.bind_some,e2,Option.bind_some,e3,Option.bind_some,e4],k⟩
theorem op_oSeq {R : List D->Prop} (k : Op (f δ) (zb7 R)) : Op (v3 f δ) R:=by
 obtain ⟨x,e1,k⟩:=k
 cases x with
 | lst xs=>exact ⟨_,by unfold v3; rw [e1],k⟩
 | tup xs=>exact ⟨_,by unfold v3; rw [e1],k⟩
 | str xs=>exact ⟨_,by unfold v3; rw [e1],k⟩
 | _=>exact k.elim
theorem op_oRng {R : List D->Prop} (k : Op (f δ) (za6 fun i=>(-(2 ^ 62) <= i /\ i < 2 ^ 62) /\ R (wV 0 i.toNat))) : Op (WF f δ) R:=by
 obtain ⟨x,e1,k⟩:=k
 cases x with
 | int b=>obtain ⟨k0,k⟩:=k; exact ⟨_,by unfold WF; rw [e1]; dsimp only; rw [if_pos k0],k⟩
 | _=>exact k.elim
theorem op_oRng2 {R : List D->Prop} (k : Op (f δ) (za6 fun i=>Op (g δ) (za6 fun j=>(-(2 ^ 62) <= i /\ i < 2 ^ 62 /\ -(2 ^ 62) <= j /\ j < 2 ^ 62) /\ R (wV i (j - i).toNat)))) : Op (ZI f g δ) R:=by
 obtain ⟨x,e1,k⟩:=k
 cases x with
 | int b=>
  obtain ⟨y,e2,k⟩:=k
  cases y with
  | int b'=>obtain ⟨k0,k⟩:=k; exact ⟨_,by unfold ZI; rw [e1,Option.bind_some,e2,Option.bind_some]; dsimp only; rw [if_pos k0],k⟩
  | _=>exact k.elim
 | _=>exact k.elim
theorem op_comp {nl : Nat} {js : List Nat} {it : En->Option (List D)} {Rr : Rs->Prop} (k : Op (it δ) fun xs=>xs.length <= sizeLine /\ Op (wF (fun x=>c ((csD nl js δ).set i (some (.sh x)))) (fun x=>g ((csD nl js δ).set i (some (.sh x)))) xs) fun ys=>Rr (.fr (.lst ys))) : Op (yD nl js i it c g δ) Rr:=by
 obtain ⟨x,e1,k0,y,e2,k⟩:=k
 exact ⟨_,by unfold yD; rw [e1,Option.bind_some,if_pos k0,e2]; rfl,k⟩
theorem yz {α : Type} {k : α->D} {hh : α->D} {g : D->Option D} {xs : List α} {R : List D->Prop} (h1 : ∀ x ∈ xs,Op (g (k x)) fun d=>d = hh x) (q : R (xs.map hh)) : Op (wF (fun x=>some true) g (xs.map k)) R:=by
 refine ⟨_,?_,q⟩
 clear q
 induction xs with
 | nil=>rfl
 | cons x xs ih=>
  rw [List.map_cons]
  unfold wF
  rw [(h1 x List.mem_cons_self).eq,ih fun y hy=>h1 y (List.mem_cons_of_mem _ hy)]
  rfl
theorem uQ {α : Type} {k : α->D} {p : α->Bool} {hh : α->D} {c : D->Option Bool} {g : D->Option D} {xs : List α} {R : List D->Prop} (h0 : ∀ x ∈ xs,Op (c (k x)) fun b=>b = p x) (h1 : ∀ x ∈ xs,p x = true->Op (g (k x)) fun d=>d = hh x) (q : R ((xs.filter p).map hh)) : Op (wF c g (xs.map k)) R:=by
 refine ⟨_,?_,q⟩
 clear q
 induction xs with
 | nil=>rfl
 | cons x xs ih=>
  rw [List.map_cons]
  unfold wF
  rw [(h0 x List.mem_cons_self).eq,Option.bind_some,ih (fun y hy=>h0 y (List.mem_cons_of_mem _ hy)) fun y hy=>h1 y (List.mem_cons_of_mem _ hy)]
  cases e : p x with
  | true=>rw [if_pos rfl,(h1 x List.mem_cons_self e).eq,Option.bind_some,Option.bind_some,List.filter_cons,if_pos e]; rfl
  | false=>rw [if_neg Bool.false_ne_true,List.filter_cons,if_neg (by rw [e]; exact Bool.false_ne_true)]
theorem jd {g : D->Option D} {xs : List D} {Q : D->Prop} {R : List D->Prop} (h1 : ∀ x ∈ xs,Op (g x) Q) (q : ∀ ys : List D,ys.length = xs.length->(∀ y ∈ ys,Q y)->R ys) : Op (wF (fun x=>some true) g xs) R:=by
 have key : ∃ ys,wF (fun x=>some true) g xs = some ys /\ ys.length = xs.length /\ ∀ y ∈ ys,Q y:=by
  clear q
  induction xs with
  | nil=>exact ⟨[],rfl,rfl,fun y hy=>nomatch hy⟩
  | cons x xs ih=>
   obtain ⟨y,e1,q1⟩:=h1 x List.mem_cons_self
   obtain ⟨ys,e2,l2,q2⟩:=ih fun y hy=>h1 y (List.mem_cons_of_mem _ hy)
   refine ⟨y::ys,?_,by simp [l2],fun z hz=>?_⟩
   ·unfold wF; rw [e1,e2]; rfl
   ·rcases List.mem_cons.mp hz with rfl | hz
    ·exact q1
    ·exact q2 z hz
 obtain ⟨ys,e,l,q'⟩:=key
 exact ⟨ys,e,q ys l q'⟩
theorem so_seq (k : So (F δ) (fun δ'=>So (F' δ') N T) T) : So (zA F F' δ) N T:=by
 obtain ⟨u,e,k⟩:=k
 cases u with
 | nx δ'=>obtain ⟨w,e2,k⟩:=k; exact ⟨w,by unfold zA; rw [e]; exact e2,k⟩
 | rt r δ'=>exact ⟨.rt r δ',by unfold zA; rw [e],k⟩
 | bk δ=>exact k.elim
 | ct δ=>exact k.elim
 | ex c δ=>exact k.elim
theorem qm (P : En->Prop) {o : Option Out} (k : So o P T) (k' : ∀ δ',P δ'->N δ') : So o N T:=k.mono k' fun _ _ h=>h
theorem so_if (k : Op (c δ) fun x=>if x = true then So (F δ) N T else So (F' δ) N T) : So (sIf c F F' δ) N T:=by
 obtain ⟨x,e1,k⟩:=k
 cases x with
 | true=>obtain ⟨y,e2,k⟩:=(show So (F δ) N T from k); exact ⟨y,by unfold sIf; rw [e1]; exact e2,k⟩
 | false=>obtain ⟨y,e2,k⟩:=(show So (F' δ) N T from k); exact ⟨y,by unfold sIf; rw [e1]; exact e2,k⟩
theorem so_nil (k : N δ) : So (sNil δ) N T:=⟨_,rfl,k⟩
theorem so_set (k : Op (f δ) fun d=>TU N δ i (.sh d)) : So (yu i f δ) N T:=by
 obtain ⟨x,e1,k⟩:=k
 exact ⟨_,by unfold yu; rw [e1]; rfl,k⟩
theorem so_setR (k : Op (fr δ) fun r=>zdg N δ i r) : So (tY i fr δ) N T:=by
 obtain ⟨x,e1,k⟩:=k
 exact ⟨_,by unfold tY; rw [e1]; rfl,k⟩
theorem so_ret (k : Op (fr δ) fun r=>T r δ) : So (yo fr δ) N T:=by
 obtain ⟨x,e1,k⟩:=k
 exact ⟨_,by unfold yo; rw [e1]; rfl,k⟩
theorem so_app {ds : List D} {o : Option Addr} (e : δ[i]? = some (some (.pv (.lst ds) o))) (k : Op (f δ) fun d=>ds.length < sizeLine /\ TU N δ i (.pv (.lst (ds++[d])) o)) : So (TF i f δ) N T:=by
 obtain ⟨x,e1,k0,k⟩:=k
 exact ⟨_,by unfold TF; rw [e]; dsimp only; rw [e1,Option.bind_some,if_pos k0],k⟩
theorem so_setX {fx : FX} (k : Op (fx δ) fun r=>TU N r.2 i (.sh r.1)) : So (kg i fx δ) N T:=by
 obtain ⟨x,e1,k⟩:=k
 exact ⟨_,by unfold kg; rw [e1]; rfl,k⟩
theorem op_xD {R : D × En->Prop} (k : Op (f δ) fun d=>R (d,δ)) : Op (xD f δ) R:=by
 obtain ⟨x,e1,k⟩:=k
 exact ⟨_,by unfold xD; rw [e1]; rfl,k⟩
theorem so_for {it : En->Option (List D)} (k : Op (it δ) fun xs=>So (Xn i F xs δ) N T) : So (XU i it F δ) N T:=by
 obtain ⟨x,e1,u,e2,k⟩:=k
 exact ⟨u,by unfold XU; rw [e1]; exact e2,k⟩
theorem xH (I : Nat->En->Prop) {xs : List D} (h0 : I 0 δ) (st : ∀ k x,xs[k]? = some x->∀ δ,I k δ->So (F (δ.set i (some (.sh x)))) (I (k + 1)) T) (q : ∀ δ,I xs.length δ->N δ) : So (Xn i F xs δ) N T:=by
 have key : ∀ (ys : List D) (k : Nat) (δ : En),xs.drop k = ys->k <= xs.length->I k δ->So (Xn i F ys δ) (I xs.length) T:=by
  intro ys
  induction ys with
  | nil=>
   intro k δ e hle h
   have hk : xs.length <= k:=by simpa using e
   have : k = xs.length:=by omega
   subst this
   exact ⟨_,rfl,h⟩
  | cons y ys ih=>
   intro k δ e hle h
   have hk : xs[k]? = some y:=by
    have:=congrArg (·[0]?) e
    simpa using this
   have hlt : k < xs.length:=(List.getElem?_eq_some_iff.mp hk).1
   have hd : xs.drop (k + 1) = ys:=by rw [<- List.drop_drop,e]; rfl
   obtain ⟨u,e1,k1⟩:=st k y hk δ h
   cases u with
   | nx δ'=>
    obtain ⟨w,e2,k2⟩:=ih (k + 1) δ' hd hlt k1
    exact ⟨w,by unfold Xn; rw [e1]; exact e2,k2⟩
   | rt r δ'=>exact ⟨.rt r δ',by unfold Xn; rw [e1],k1⟩
   | bk δ=>exact k1.elim
   | ct δ=>exact k1.elim
   | ex c δ=>exact k1.elim
 exact (key xs 0 δ rfl (Nat.zero_le _) h0).mono q fun _ _ h=>h
theorem so_retVs {d : D} (e : δ[i]? = some (some (.sh d))) (k : T (.sh d) δ) : So (ve i δ) N T:=⟨_,by unfold ve; rw [e],k⟩
theorem so_retVp {m : Mo} {o : Option Addr} (e : δ[i]? = some (some (.pv m o))) (k : T (.fr m) (δ.set i none)) : So (ve i δ) N T:=⟨_,by unfold ve; rw [e],k⟩
theorem so_retX {fx : FX} (k : Op (fx δ) fun r=>T (.sh r.1) r.2) : So (WZ fx δ) N T:=by
 obtain ⟨x,e1,k⟩:=k
 exact ⟨_,by unfold WZ; rw [e1]; rfl,k⟩
theorem so_ext {ds : List D} {o : Option Addr} (e : δ[i]? = some (some (.pv (.lst ds) o))) (k : Op (fr δ) fun r=>∃ ys,r = .fr (.lst ys) /\ ds.length + ys.length <= sizeLine /\ TU N δ i (.pv (.lst (ds++ys)) o)) : So (zaV i fr δ) N T:=by
 obtain ⟨r,e1,ys,rfl,hl,k⟩:=k
 exact ⟨_,by unfold zaV; rw [e1,Option.bind_some,e]; dsimp only; rw [if_pos hl],k⟩
theorem so_lput {ds : List D} {o : Option Addr} (e : δ[i]? = some (some (.pv (.lst ds) o))) (k : Op (g δ) fun d=>Op (f δ) fun kd=>∃ z j,kd = .int z /\ ixN ds.length z = some j /\ TU N δ i (.pv (.lst (ds.set j d)) o)) : So (Xr i f g δ) N T:=by
 obtain ⟨x,e1,y,e2,z,j,rfl,hj,k⟩:=k
 exact ⟨_,by unfold Xr; rw [e]; dsimp only; rw [e1,Option.bind_some,e2,Option.bind_some]; dsimp only; rw [hj]; rfl,k⟩
theorem op_pop {ds : List D} {d : D} {o : Option Addr} {R : D × En->Prop} (e : δ[i]? = some (some (.pv (.lst (d::ds)) o))) (k : R (d,δ.set i (some (.pv (.lst ds) o)))) : Op (kx i δ) R:=⟨_,by unfold kx; rw [e],k⟩
theorem op_xFst {fx : FX} {R : List D × En->Prop} (k : Op (fx δ) fun r=>Op (ga r.2) fun ds=>R (r.1::ds,r.2)) : Op (Q5 fx ga δ) R:=by
 obtain ⟨x,e1,y,e2,k⟩:=k
 exact ⟨_,by unfold Q5; rw [e1,Option.bind_some,e2,Option.bind_some],k⟩
theorem op_xNil {R : List D × En->Prop} (k : R ([],δ)) : Op (xNil δ) R:=⟨_,rfl,k⟩
theorem op_xCons {fx : FX} {gx : En->Option (List D × En)} {R : List D × En->Prop} (k : Op (fx δ) fun r=>Op (gx r.2) fun rs=>R (r.1::rs.1,rs.2)) : Op (kq fx gx δ) R:=by
 obtain ⟨x,e1,y,e2,k⟩:=k
 exact ⟨_,by unfold kq; rw [e1,Option.bind_some,e2,Option.bind_some],k⟩
theorem op_xTup {gx : En->Option (List D × En)} {R : D × En->Prop} (k : Op (gx δ) fun r=>r.1.length <= sizeLine /\ R (.tup r.1,r.2)) : Op (J1 gx δ) R:=by
 obtain ⟨x,e1,k0,k⟩:=k
 exact ⟨_,by unfold J1; rw [e1,Option.bind_some,if_pos k0],k⟩
theorem op_xCallG {M : List D->Option Rs} {gx : En->Option (List D × En)} {R : D × En->Prop} (k : Op (gx δ) fun r=>Op (M r.1) fun y=>∃ d,y = .sh d /\ qZ d = true /\ R (d,r.2)) : Op (tu M gx δ) R:=by
 obtain ⟨x,e1,y,e2,d,rfl,k0,k⟩:=k
 exact ⟨_,by unfold tu; rw [e1,Option.bind_some,e2,Option.bind_some]; dsimp only; rw [if_pos k0],k⟩
theorem op_xCallT {c : List D->Option D} {fx : FX} {R : D × En->Prop} (k : Op (fx δ) fun r=>Op (c [r.1]) fun d=>R (d,r.2)) : Op (kB c fx δ) R:=by
 obtain ⟨x,e1,y,e2,k⟩:=k
 exact ⟨_,by unfold kB; rw [e1,Option.bind_some,e2]; rfl,k⟩
theorem op_xCallM {M : List Sl->Option (Rs × En)} {ars : List Ar} {R : D × En->Prop} (k : Op (Q2 ars δ) fun ags=>∃ d ms,WR M ags (.sh d) ms /\ R (d,q0 (fun j=>(xQ ars ms).lookup j) 0 δ)) : Op (kn M ars δ) R:=by
 obtain ⟨x,e1,d,ms,h,k⟩:=k
 exact ⟨_,by unfold kn; rw [e1,Option.bind_some,Q0 h]; rfl,k⟩
theorem op_xComp {nl : Nat} {js : List Nat} {it : En->Option (List D)} {gx : FX} {R : D × En->Prop} (k : Op (it δ) fun xs=>xs.length <= sizeLine /\ Op (jb nl js i gx xs δ) fun r=>R (.lst r.1,r.2)) : Op (Xq nl js i it gx δ) R:=by
 obtain ⟨x,e1,k0,y,e2,k⟩:=k
 exact ⟨_,by unfold Xq; rw [e1,Option.bind_some,if_pos k0,e2]; rfl,k⟩
theorem YK {nl : Nat} {js : List Nat} {gx : FX} {R : List D × En->Prop} (I : Nat->List D->En->Prop) : ∀ {xs : List D} {δ : En} (k0 : Nat) (ys : List D),I k0 ys δ->
  (∀ k x ys δ,xs[k]? = some x->I (k0 + k) ys δ->Op (gx ((csD nl js δ).set i (some (.sh x)))) fun p=>TQ nl js δ p.2 = true /\ I (k0 + k + 1) (ys++[p.1]) (Q6 nl js p.2 δ))->
  (∀ zs δ',I (k0 + xs.length) (ys++zs) δ'->R (zs,δ'))->Op (jb nl js i gx xs δ) R
 | [],δ,k0,ys,h0,_,q=>⟨_,rfl,q [] δ (by simpa using h0)⟩
 | x::xs,δ,k0,ys,h0,st,q=>by
  obtain ⟨p,e1,hb,h1⟩:=st 0 x ys δ rfl h0
  obtain ⟨r,e2,k⟩:=YK (R:=fun r=>R (p.1::r.1,r.2)) I (xs:=xs) (δ:=Q6 nl js p.2 δ) (k0 + 1) (ys++[p.1]) h1
   (fun k y ws δ ey h=>by
    have:=st (k + 1) y ws δ (by simpa using ey) (by rw [show k0 + (k + 1) = k0 + 1 + k by omega]; exact h)
    rw [show k0 + (k + 1) + 1 = k0 + 1 + k + 1 by omega] at this
    exact this)
   (fun zs δ' h=>q (p.1::zs) δ' (by rw [List.length_cons,show k0 + (xs.length + 1) = k0 + 1 + xs.length by omega]; simpa using h))
  exact ⟨_,by unfold jb; rw [e1,Option.bind_some,if_pos hb,e2]; rfl,k⟩
theorem op_runMS {N : List Str} {n : Nat} {fb : FS} {xs : List Sl} {δ : En} {R : Rs × En->Prop} (hl : xs.length = n) (hs : startS N xs = δ) (k : So (fb δ) (fun δ'=>R (.sh .non,δ'.take n)) fun r δ'=>R (r,δ'.take n)) : Op (TM N n fb xs) R:=by
 subst hs
 obtain ⟨u,e,k⟩:=k
 cases u with
 | nx δ=>exact ⟨_,by unfold TM; rw [if_pos hl,e],k⟩
 | rt r δ=>exact ⟨_,by unfold TM; rw [if_pos hl,e],k⟩
 | bk δ=>exact k.elim
 | ct δ=>exact k.elim
 | ex c δ=>exact k.elim
theorem o_add {i j : Int} (k : R (.int (i + j))) : Op (addD (.int i) (.int j)) R:=⟨_,rfl,k⟩
theorem o_sub {i j : Int} (k : R (.int (i - j))) : Op (subD (.int i) (.int j)) R:=⟨_,rfl,k⟩
theorem o_mul {i j : Int} (h : Ts i j) (k : R (.int (i * j))) : Op (mulD (.int i) (.int j)) R:=⟨_,by show (if Ts i j then _ else _) = _; rw [if_pos h],k⟩
theorem o_div {i j : Int} (h : zal i j) (k : R (.int (i / j))) : Op (fdivD (.int i) (.int j)) R:=⟨_,by show (if zal i j then _ else _) = _; rw [if_pos h],k⟩
theorem o_mod {i j : Int} (h : 0 < j) (k : R (.int (i % j))) : Op (modD (.int i) (.int j)) R:=⟨_,by show (if 0 < j then _ else _) = _; rw [if_pos h],k⟩
theorem o_pow {i j : Int} (h : zam i j) (k : R (.int (i ^ j.toNat))) : Op (powD (.int i) (.int j)) R:=⟨_,by show (if zam i j then _ else _) = _; rw [if_pos h],k⟩
theorem o_neg {i : Int} (k : R (.int (-i))) : Op (Zt (.int i)) R:=⟨_,rfl,k⟩
theorem o_gt {i j : Int} (k : R (.bl (decide (j < i)))) : Op (gtD (.int i) (.int j)) R:=⟨_,rfl,k⟩
theorem o_le {i j : Int} (k : R (.bl (decide (i <= j)))) : Op (leD (.int i) (.int j)) R:=⟨_,rfl,k⟩
theorem YL {i j : Int} : decide (V.int i = V.int j) = decide (i = j):=decide_eq_decide.mpr ⟨V.int.inj,fun e=>e ▸ rfl⟩
theorem o_eqI {i j : Int} (k : R (.bl (decide (i = j)))) : Op (eqO false (.int i) (.int j)) R:=⟨_,by show some (D.bl (decide (V.int i = V.int j))) = _; rw [YL],k⟩
theorem o_neI {i j : Int} (k : R (.bl (!decide (i = j)))) : Op (eqO true (.int i) (.int j)) R:=⟨_,by show some (D.bl (!decide (V.int i = V.int j))) = _; rw [YL],k⟩
theorem za7 {x y : D} (k : Op (eqO true x y) R) : Op (neE x y) R:=by
 obtain ⟨d,e,k⟩:=k
 exact ⟨d,by unfold neE; rw [e]; rfl,k⟩
theorem o_neEI {i j : Int} (k : R (.bl (!decide (i = j)))) : Op (neE (.int i) (.int j)) R:=za7 (o_neI k)
theorem o_lenL {xs : List D} (k : R (.int xs.length)) : Op (lenD [.lst xs]) R:=⟨_,rfl,k⟩
theorem o_lenT {xs : List D} (k : R (.int xs.length)) : Op (lenD [.tup xs]) R:=⟨_,rfl,k⟩
theorem o_tupL {xs : List D} (k : R (.tup xs)) : Op (tupD [.lst xs]) R:=⟨_,rfl,k⟩
theorem o_intB {b : Bool} (k : R (.int (if b then 1 else 0))) : Op (intD [.bl b]) R:=⟨_,rfl,k⟩
theorem o_slL {xs : List D} {lo hi : Option Int} {Rr : Rs->Prop} (k : Rr (.fr (.lst (cutD xs lo hi)))) : Op (slA (.lst xs) lo hi) Rr:=⟨_,rfl,k⟩
theorem o_slT {xs : List D} {lo hi : Option Int} {Rr : Rs->Prop} (k : Rr (.sh (.tup (cutD xs lo hi)))) : Op (slA (.tup xs) lo hi) Rr:=⟨_,rfl,k⟩
theorem o_max {i j : Int} (k : R (.int (if j > i then j else i))) : Op (maxD [.int i,.int j]) R:=⟨_,rfl,k⟩
theorem o_min {i j : Int} (k : R (.int (if j < i then j else i))) : Op (minD [.int i,.int j]) R:=⟨_,rfl,k⟩
theorem yI {xs : List D} {k : Nat} {x : D} (e : xs[k]? = some x) (q : R x) : Op (ixA (.lst xs) (.int k)) R:=⟨x,ZA e,q⟩
theorem zP {xs : List D} {k : Nat} {x : D} (e : xs[k]? = some x) (q : R x) : Op (ixA (.tup xs) (.int k)) R:=⟨x,ZA e,q⟩
theorem v8 {xs : List D} {i : Int} (h0 : 0 <= i) (h1 : i < xs.length) (q : ∀ x ∈ xs,R x) : Op (ixA (.lst xs) (.int i)) R:=by
 obtain ⟨n,rfl⟩ : ∃ n : Nat,i = n:=⟨i.toNat,by omega⟩
 have hn : n < xs.length:=by omega
 exact yI (List.getElem?_eq_getElem hn) (q _ (List.getElem_mem hn))
theorem op_runE {N : List Str} {n : Nat} {fb : FS} {ds : List D} {R : Rs->Prop} {δ : En} (hl : ds.length = n) (hs : startD N ds = δ) (k : So (fb δ) (fun _=>R (.sh .non)) fun r _=>R r) : Op (yN N n fb ds) R:=by
 subst hs
 obtain ⟨u,e,k⟩:=k
 cases u with
 | nx δ=>exact ⟨_,by unfold yN; rw [if_pos hl,e],k⟩
 | rt r δ'=>exact ⟨_,by unfold yN; rw [if_pos hl,e],k⟩
 | bk δ=>exact k.elim
 | ct δ=>exact k.elim
 | ex c δ=>exact k.elim
end
end L2
local macro_rules | `(tactic| walk_at "wp1")=>`(tactic| first
 | with_reducible refine L2.so_retX ?_
 | with_reducible refine L2.so_unp ?_
 | with_reducible refine L2.op_xFst ?_
 | with_reducible refine L2.op_xNil ?_
 | with_reducible refine L2.op_xCons ?_
 | with_reducible refine L2.op_xTup ?_
 | with_reducible refine L2.op_xCallG ?_
 | with_reducible refine L2.op_xCallT ?_
 | with_reducible refine L2.op_xCallM ?_
 | with_reducible refine L2.op_callM1 ?_
 | with_reducible refine L2.op_xComp ?_
 | ((with_reducible refine L2.so_ext (ds:=?ds) (o:=?o) ?h ?_); case h=>exact rfl)
 | ((with_reducible refine L2.so_lput (ds:=?ds) (o:=?o) ?h ?_); case h=>exact rfl)
 | ((with_reducible refine L2.op_pop (ds:=?ds) (d:=?d) (o:=?o) ?h ?_); case h=>exact rfl)
 | with_reducible refine L2.so_seq ?_
 | with_reducible refine L2.so_set ?_
 | with_reducible refine L2.so_setR ?_
 | with_reducible refine L2.so_setX ?_
 | with_reducible refine L2.so_ret ?_
 | with_reducible refine L2.so_nil ?_
 | with_reducible refine L2.so_for ?_
 | with_reducible refine L2.so_forZ ?_
 | ((with_reducible refine L2.so_retVs (d:=?d) ?h ?_); case h=>exact rfl)
 | ((with_reducible refine L2.so_retVp (o:=?o) (m:=?m) ?h ?_); case h=>exact rfl)
 | ((with_reducible refine L2.so_app (o:=?o) (ds:=?ds) ?h ?_); case h=>exact rfl)
 | ((with_reducible refine L2.so_dput (o:=?o) (ks:=?ks) (ds:=?ds) ?h ?_); case h=>exact rfl)
 | ((with_reducible refine L2.setK (δ':=?δ2) ?h ?_); case h=>dsimp only [List.set]; exact rfl)
 | with_reducible refine L2.setR_sh ?_
 | with_reducible refine L2.setR_fr ?_
 | with_reducible refine L2.pub_sh ?_
 | with_reducible refine L2.pub_l ?_
 | with_reducible refine L2.pub_d ?_
 | with_reducible refine L2.ite_t ?_
 | with_reducible refine L2.ite_f ?_
 | ((with_reducible refine L2.ite_rt ?h ?_); case h=>exact rfl)
 | ((with_reducible refine L2.ite_rf ?h ?_); case h=>exact rfl)
 | with_reducible refine L2.isBl_k ?_
 | with_reducible refine L2.isIn_k ?_
 | with_reducible refine L2.isSq_l ?_
 | with_reducible refine L2.isSq_t ?_
 | with_reducible refine L2.isSq_s ?_
 | with_reducible refine L2.op_f2 ?_
 | with_reducible refine L2.op_f1 ?_
 | ((with_reducible refine L2.op_varBs (d:=?d) ?h ?_); case h=>exact rfl)
 | ((with_reducible refine L2.op_varBl (o:=?o) (xs:=?xs) ?h ?_); case h=>exact rfl)
 | ((with_reducible refine L2.op_varBd (o:=?o) (ks:=?ks) (xs:=?xs) ?h ?_); case h=>exact rfl)
 | ((with_reducible refine L2.op_var (x:=?x) ?h ?_); case h=>exact rfl)
 | ((with_reducible refine L2.op_xSetd (o:=?o) (ks:=?ks) (ds:=?ds) ?h ?_); case h=>exact rfl)
 | with_reducible refine L2.op_C ?_
 | with_reducible refine L2.op_nil ?_
 | with_reducible refine L2.op_cons ?_
 | with_reducible refine L2.op_callR ?_
 | with_reducible refine L2.op_callB ?_
 | with_reducible refine L2.op_callN ?_
 | with_reducible refine L2.op_callG ?_
 | with_reducible refine L2.op_pub ?_
 | with_reducible refine L2.op_sh ?_
 | with_reducible refine L2.op_fB ?_
 | with_reducible refine L2.op_f3 ?_
 | with_reducible refine L2.op_bAnd ?_
 | with_reducible refine L2.op_bOr ?_
 | with_reducible refine L2.op_bNot ?_
 | with_reducible refine L2.op_fAnd ?_
 | with_reducible refine L2.op_fOr ?_
 | with_reducible refine L2.op_fNot ?_
 | with_reducible refine L2.op_fIf ?_
 | with_reducible refine L2.op_bYes ?_
 | with_reducible refine L2.op_tup ?_
 | with_reducible refine L2.op_lstR ?_
 | with_reducible refine L2.op_dicR ?_
 | with_reducible refine L2.op_is ?_
 | with_reducible refine L2.op_oInt ?_
 | with_reducible refine L2.op_sl ?_
 | with_reducible refine L2.op_none ?_
 | with_reducible refine L2.op_some ?_
 | with_reducible refine L2.op_get2 ?_
 | with_reducible refine L2.op_oSeq ?_
 | with_reducible refine L2.op_oRng ?_
 | with_reducible refine L2.op_oRng2 ?_
 | with_reducible refine L2.op_comp ?_
 | with_reducible refine L2.op_xD ?_
 | with_reducible refine L2.op_xIf ?_
 | with_reducible refine L2.op_zip ?_
 | with_reducible refine L2.o_add ?_
 | with_reducible refine L2.o_sub ?_
 | with_reducible refine L2.o_neg ?_
 | with_reducible refine L2.o_lt ?_
 | with_reducible refine L2.o_gt ?_
 | with_reducible refine L2.o_ge ?_
 | with_reducible refine L2.o_le ?_
 | with_reducible refine L2.o_eqI ?_
 | with_reducible refine L2.o_neI ?_
 | with_reducible refine L2.o_neEI ?_
 | with_reducible refine L2.o_lenL ?_
 | with_reducible refine L2.o_lenT ?_
 | with_reducible refine L2.o_tupL ?_
 | with_reducible refine L2.o_tupT ?_
 | with_reducible refine L2.o_intI ?_
 | with_reducible refine L2.o_intB ?_
 | with_reducible refine L2.o_isN ?_
 | with_reducible refine L2.o_slL ?_
 | with_reducible refine L2.o_slT ?_
 | with_reducible refine L2.o_keyI ?_
 | with_reducible refine L2.o_keyS ?_
 | with_reducible refine L2.o_seqT ?_
 | with_reducible refine L2.o_seqL ?_
 | with_reducible refine L2.o_dicN ?_
 | with_reducible refine L2.o_max ?_
 | with_reducible refine L2.o_min ?_
 | ((with_reducible refine L2.o_mul ?h ?_); case h=>first | decide | exact Or.inr (by decide) | exact Or.inl (by decide) | exact ⟨by decide,by decide⟩ | omega)
 | ((with_reducible refine L2.o_div ?h ?_); case h=>first | decide | exact Or.inr (by decide) | exact Or.inl (by decide) | exact ⟨by decide,by decide⟩ | omega)
 | ((with_reducible refine L2.o_mod ?h ?_); case h=>first | decide | exact Or.inr (by decide) | exact Or.inl (by decide) | exact ⟨by decide,by decide⟩ | omega)
 | ((with_reducible refine L2.o_pow ?h ?_); case h=>first | decide | exact Or.inr (by decide) | exact Or.inl (by decide) | exact ⟨by decide,by decide⟩ | omega))
local macro_rules | `(tactic| walk_at "wp")=>`(tactic| repeat first | walk_at "wp1" | with_reducible refine L2.so_if ?_)
local macro_rules | `(tactic| walk_at "wpn")=>`(tactic| repeat walk_at "wp1")
local macro_rules | `(tactic| walk_at "wrun")=>`(tactic| (refine L2.op_runE (δ:=?d) rfl ?h ?_; case h=>simp only [L2.startD,List.map_cons,List.map_nil,List.length_cons,List.length_nil,List.replicate,List.cons_append,List.nil_append,Nat.reduceAdd,Nat.reduceSub]; exact rfl))
local macro_rules | `(tactic| walk_at "wrunM")=>`(tactic| (refine L2.op_runMS (δ:=?d) rfl ?h ?_; case h=>simp only [L2.startS,List.map_cons,List.map_nil,List.length_cons,List.length_nil,List.replicate,List.cons_append,List.nil_append,Nat.reduceAdd,Nat.reduceSub]; exact rfl))
namespace L2
open PySem PySem.Spec PySem.W PyProof.Rows
structure STO {α : Type} (lt : α->α->Bool) : Prop where
 irr : ∀ a,lt a a = false
 tr : ∀ a b c,lt a b = true->lt b c = true->lt a c = true
 tri : ∀ a b,lt a b = false->lt b a = false->a = b
section
variable {α : Type} {lt : α->α->Bool}
theorem STO.asy (h : STO lt) {a b : α} (e : lt a b = true) : lt b a = false:=by
 cases z : lt b a with
 | false=>rfl
 | true=>have:=h.tr _ _ _ e z; rw [h.irr] at this; cases this
theorem STO.ngt (h : STO lt) {a b c : α} (e : lt a b = false) (e' : lt b c = false) : lt a c = false:=by
 cases z : lt a c with
 | false=>rfl
 | true=>
  cases y : lt b a with
  | false=>rw [h.tri _ _ e y,e'] at z; cases z
  | true=>rw [h.tr _ _ _ y z] at e'; cases e'
theorem STO.ne (h : STO lt) {a b : α} (e : lt a b = false) (n : a ≠ b) : lt b a = true:=by
 cases z : lt b a with
 | false=>exact absurd (h.tri _ _ e z) n
 | true=>rfl
variable [DecidableEq α]
end
theorem zcI : STO (fun a b : Int=>decide (a < b)) where
 irr:=fun a=>by simp
 tr:=fun a b c h1 h2=>by simp only [decide_eq_true_eq] at *; omega
 tri:=fun a b h1 h2=>by simp only [decide_eq_false_iff_not] at *; omega
def sLt (x y : Str) : Bool:=decide (x.cps.toList < y.cps.toList)
theorem wS : STO sLt where
 irr:=fun a=>by simp [sLt]
 tr:=fun a b c h1 h2=>by
  simp only [sLt,decide_eq_true_eq] at *
  exact List.lt_trans h1 h2
 tri:=fun a b h1 h2=>by
  simp only [sLt,decide_eq_false_iff_not] at *
  have e : a.cps.toList = b.cps.toList:=List.le_antisymm (List.not_lt.mp h2) (List.not_lt.mp h1)
  obtain ⟨a⟩:=a
  obtain ⟨b⟩:=b
  exact congrArg Str.mk (Array.toList_inj.mp e)
theorem vj {α : Type} {lt : α->α->Bool} (W : STO lt) : ∀ {xs ys : List α},xs.Perm ys->xs.Pairwise (fun a b=>lt b a = false)->ys.Pairwise (fun a b=>lt b a = false)->xs = ys
 | [],ys,p,_,_=>by rw [p.nil_eq]
 | x::xs,[],p,_,_=>absurd p.symm (by intro z; exact absurd z.nil_eq (by simp))
 | x::xs,y::ys,p,h1,h2=>by
  have e : x = y:=by
   have m1 : x ∈ y::ys:=p.mem_iff.mp List.mem_cons_self
   have m2 : y ∈ x::xs:=p.mem_iff.mpr List.mem_cons_self
   rcases List.mem_cons.mp m1 with e | m1
   ·exact e
   rcases List.mem_cons.mp m2 with e | m2
   ·exact e.symm
   exact W.tri _ _ ((List.pairwise_cons.mp h2).1 x m1) ((List.pairwise_cons.mp h1).1 y m2)
  subst e
  rw [vj W p.cons_inv (List.pairwise_cons.mp h1).2 (List.pairwise_cons.mp h2).2]
section
variable {X : Cx} {pins : List (Addr × Obj)} {σ : St} {H : Hp} {s : Shared}
end
section
variable {X : Cx} {e : Expr} {f : FE} {p1 p2 p3 p4 : Pos}
end
open PySem
theorem Xv (t : SetTable) (es : Array (Int × Value)) (h : Int) (x : Value) : (layNew t es h x).2.1.led = t.led:=by
 unfold layNew
 split
 ·show (SetTable.orStandIn (t.put _).1 _).led = t.led
  unfold SetTable.orStandIn
  split
  ·rfl
  ·rfl
 ·rfl
theorem kH (t : SetTable) (es : Array (Int × Value)) (n : Nat) : (relayAll t es n).2.1.led = t.led /\ (t.plain = false->(relayAll t es n).2.1.plain = false):=by
 unfold relayAll
 split
 ·rename_i t' order e
  have e' : t'.led = t.led /\ t'.plain = t.plain:=by
   unfold SetTable.relaid SetTable.laid at e
   simp only [Option.bind_eq_bind,Option.bind_eq_some_iff] at e
   obtain ⟨ow,_,e⟩:=e
   cases e
   exact ⟨rfl,rfl⟩
  dsimp only
  split
  ·exact ⟨e'.1,fun h=>e'.2.trans h⟩
  ·exact ⟨rfl,fun _=>rfl⟩
 ·exact ⟨rfl,fun _=>rfl⟩
section
variable {prog : Program} {w : World} {K : Type} [DecidableEq K] {knd : KeyKind prog w K} {A : Around} {E : Value->Shared->Prop} {s : Shared}
def xI (knd : KeyKind prog w K) (h : Heap) (a : Addr) (es : Array (Int × Value)) (ep : Nat) (t : SetTable) : Prop:=
 ∃ o,h.get? a = some o /\ o.ExactSet /\ o.data = .set es ep t /\ ElemsOf knd es.toList /\ t.fits es.size = true
theorem ZQ {a : Addr} {es : Array (Int × Value)} {ep : Nat} {t : SetTable} {k : K} {x : Value} {Q : Bool->Shared->Prop} (hkey : knd.is k x = true) (hsc : x.scannable = true) (hS : xI knd s.heap a es ep t) (hroom : es.size + 1 < scanBound)
  (h1 : (∃ e ∈ es.toList,knd.is k e.2 = true)->Q false s)
  (h2 : (∀ e ∈ es.toList,knd.is k e.2 = false)->∀ h' es' ep' t',Heap.SameBut a s.heap h'->xI knd h' a es' ep' t'->es'.toList.Perm (es.toList++[(knd.hash k,x)])->t'.led = t.led->(plainKind x = false->t'.plain = false)->Q true { s with heap:=h' }) :
  wpAny (model prog w) A (setAddHashed a x (knd.hash k)) Q E s:=by
 obtain ⟨o,ho,hex,hd,hel,hf⟩:=hS
 have hb : es.size < scanBound:=by omega
 unfold setAddHashed setAddHashedIn
 refine wpAny_holding (wpAny_bind (wpAny_setState_of ho hd hf ?_))
 dsimp only
 rw [byScan_of hsc hb hel]
 simp only [↓reduceIte]
 unfold setAddByScan
 refine wpAny_bind ?_
 refine wpAny_bind (wpAny_rule ?_)
 refine wpAny_bind (wpAny_setScan_of hkey ho hd hf hel ?_)
 cases hr : List.findIdx? (fun e=>knd.is k e.2) es.toList with
 | some j=>
  dsimp only
  obtain ⟨hj,hpj,_⟩:=List.findIdx?_eq_some_iff_getElem.mp hr
  exact wpAny_pure (wpAny_pure (h1 ⟨es.toList[j],List.getElem_mem hj,hpj⟩))
 | none=>
  dsimp only
  have hno : ∀ e ∈ es.toList,knd.is k e.2 = false:=fun e he=>List.findIdx?_eq_none_iff.mp hr e he
  have hgw : ∀ (b : Bool) {s₁ : Shared} {Q' : Unit->Shared->Prop},Q' () s₁->wpAny (model prog w) A (match b with | true=>rule "set.scan.the-table-gave-way" | false=>pure ()) Q' E s₁:=
   fun b s₁ Q' hq=>by cases b <;> first | exact wpAny_pure hq | exact wpAny_rule hq
  have hperm:=layNew_perm t es (knd.hash k) x
  have hfits:=layNew_fits t es (knd.hash k) x
  have hled:=Xv t es (knd.hash k) x
  generalize hL : layNew t es (knd.hash k) x = L at hperm hfits hled ⊢
  obtain ⟨es1,t1,wasDummy,gave⟩:=L
  dsimp only at hperm hfits hled ⊢
  rw [Array.toList_push] at hperm
  have hel1 : ElemsOf knd es1.toList:=(hel.push hkey hsc).perm hperm
  have hsz1 : es1.size = es.size + 1:=by rw [<- Array.length_toList,hperm.length_eq,List.length_append,Array.length_toList]; rfl
  have hb1 : es1.size < scanBound:=by omega
  refine wpAny_bind (hgw _ ?_)
  -- the tail
  have tail : ∀ (t2 : SetTable),t2.fits es1.size = true->t2.led = t1.led->(plainKind x = false->t2.plain = false)->wpAny (model prog w) A (do
    storeSet a es1 t2
    if (!wasDummy && t2.tooFull) = true then do
      (match (relayAll t2 es1 (SetTable.grown es1.size)).2.2 with | true=>rule "set.scan.the-table-gave-way" | false=>pure ())
      storeSet a (relayAll t2 es1 (SetTable.grown es1.size)).1 (relayAll t2 es1 (SetTable.grown es1.size)).2.1
      pure (some true)
     else pure (some true)) (fun r s'=>match r with | some b=>Q b s' | none=>False) E s:=by
   intro t2 f2 l2 p2
   have hg : (s.heap.update a (Obj.putSet es1 t2)).get? a = some { o with data:=.set es1 (ep + 1) t2 }:=by
    have:=Heap.get?_update_self (Obj.putSet es1 t2) ho (by rw [putSet_of es1 t2 hd]; rfl)
    rw [putSet_of es1 t2 hd] at this; exact this
   have sb1:=Heap.SameBut.update s.heap a (Obj.putSet es1 t2)
   refine wpAny_bind (wpAny_storeSet_of ho hd ?_ (fits_of_scanBound hb1))
   split
   ·have hp:=relayAll_perm t2 es1 (SetTable.grown es1.size)
    have hfr:=relayAll_fits t2 es1 (SetTable.grown es1.size)
    have hlr:=kH t2 es1 (SetTable.grown es1.size)
    generalize hRl : relayAll t2 es1 (SetTable.grown es1.size) = Rl at hp hfr hlr ⊢
    obtain ⟨es2,t3,gave2⟩:=Rl
    dsimp only at hp hfr hlr ⊢
    have hsz : es2.size = es1.size:=by rw [<- Array.length_toList,hp.length_eq,Array.length_toList]
    refine wpAny_bind (hgw _ ?_)
    refine wpAny_bind (wpAny_storeSet_of hg rfl ?_ (fits_of_scanBound (by omega)))
    have hg2 : ((s.heap.update a (Obj.putSet es1 t2)).update a (Obj.putSet es2 t3)).get? a = some { o with data:=.set es2 (ep + 1 + 1) t3 }:=by
     have:=Heap.get?_update_self (Obj.putSet es2 t3) hg (by rw [putSet_of es2 t3 rfl]; rfl)
     rw [putSet_of es2 t3 rfl] at this; exact this
    exact wpAny_pure (h2 hno _ es2 (ep + 1 + 1) t3 (sb1.trans (Heap.SameBut.update _ a _)) ⟨_,hg2,hex,rfl,hel1.perm hp,hfr⟩ (hp.trans hperm) (hlr.1.trans (l2.trans hled)) fun z=>hlr.2 (p2 z))
   ·exact wpAny_pure (h2 hno _ es1 (ep + 1) t2 sb1 ⟨_,hg,hex,rfl,hel1,f2⟩ hperm (l2.trans hled) p2)
  split
  ·refine wpAny_bind ?_
   rw [hashByValue_scannable 8 hsc]
   refine wpAny_pure ?_
   refine wpAny_mono (tail _ ?_ ?_ ?_) (fun r s' hq=>?_) fun _ _ z=>z
   ·split
    ·exact hfits
    ·exact SetTable.fits_plain_off hfits
   ·split <;> rfl
   ·intro z
    rw [z]
    rfl
   ·cases r with
    | some b=>exact wpAny_pure hq
    | none=>exact hq.elim
  ·rename_i hpl
   refine wpAny_bind (wpAny_pure ?_)
   simp only [↓reduceIte]
   refine wpAny_mono (tail _ hfits rfl fun _=>by simpa using hpl) (fun r s' hq=>?_) fun _ _ z=>z
   cases r with
   | some b=>exact wpAny_pure hq
   | none=>exact hq.elim
end
theorem t4 : entryFor table "set.__iter__" = some Builtin.«frozenset.__iter__»:=
 entryFor_alias (id':="frozenset.__iter__") (by kernel_rfl) rfl (by decide +kernel) (by kernel_rfl)
theorem zX : Slot "set_iterator" "__next__" "set_iterator.__next__":=
 .of (owner:="set_iterator") (n:="__next__") (by rw [typeLookup_type,builtinLookup_eq_fast]; kernel_rfl) (by decide +kernel) (by decide +kernel) (by decide +kernel)
  (by first | exact .inl (by decide +kernel) | exact .inr (by decide +kernel)) (by rw [isSubtype_type]; kernel_rfl)
theorem yG : entryFor table "set_iterator.__next__" = some Builtin.«set_iterator.__next__»:=entryFor_of_tree (by kernel_rfl)
theorem yQ (a : Value) : argsOk "set_iterator.__next__" ⟨[a],[]⟩:=by
 unfold argsOk; kernel_rfl
section
variable {prog : Program} {w : World} {K : Type} [DecidableEq K] {knd : KeyKind prog w K} {A : Around} {E : Value->Shared->Prop} {s : Shared}
def zT (h : Heap) (it : Addr) (first : Value) (i : Nat) (a : Addr) (n ep : Nat) : Prop:=
 ∃ o,h.get? it = some o /\ o.cls = .type "set_iterator" /\ o.data = .fields #[first,.int i 0,.ref a,.int n 0,.int ep 0]
theorem zT.typeIs {it : Addr} {first : Value} {i : Nat} {a : Addr} {n ep : Nat} (x : zT s.heap it first i a n ep) : s.TypeIs (.ref it) "set_iterator":=let ⟨o,ho,hc,_⟩:=x; ⟨o,ho,hc⟩
theorem zT.at {h h' : Heap} {it : Addr} {first : Value} {i : Nat} {a : Addr} {n ep : Nat} (x : zT h it first i a n ep) (k : ∀ o,h.get? it = some o->h'.get? it = some o) : zT h' it first i a n ep:=let ⟨o,ho,r⟩:=x; ⟨o,k o ho,r⟩
theorem xI.at {h h' : Heap} {a : Addr} {es : Array (Int × Value)} {ep : Nat} {t : SetTable} (x : xI knd h a es ep t) (k : ∀ o,h.get? a = some o->h'.get? a = some o) : xI knd h' a es ep t:=let ⟨o,ho,r⟩:=x; ⟨o,k o ho,r⟩
theorem tF {it : Addr} {first : Value} {i : Nat} {a : Addr} {n ep : Nat} {h : Heap} {f' : Value} (x : zT h it first i a n ep) : zT (h.update it (Obj.mapFields (·.setIfInBounds 0 f'))) it f' i a n ep:=by
 obtain ⟨o,ho,hc,hd⟩:=x
 exact ⟨_,Heap.get?_update_self _ ho (Obj.isFreed_of_fields (Obj.data_mapFields hd _)),(Obj.cls_mapFields ..).trans hc,by rw [Obj.data_mapFields hd]; simp [rawInt]⟩
theorem tG {it : Addr} {first : Value} {i : Nat} {a : Addr} {n ep : Nat} {h : Heap} (x : zT h it first i a n ep) : zT (h.update it (Obj.mapFields (·.setIfInBounds 1 (rawInt ((i : Int) + 1))))) it first (i + 1) a n ep:=by
 obtain ⟨o,ho,hc,hd⟩:=x
 exact ⟨_,Heap.get?_update_self _ ho (Obj.isFreed_of_fields (Obj.data_mapFields hd _)),(Obj.cls_mapFields ..).trans hc,by rw [Obj.data_mapFields hd]; simp [rawInt]⟩
theorem YM {it : Addr} {o : Obj} {Q : Option Value->Shared->Prop} (hh : A.handled = none) (ho : s.heap.get? it = some o) {fs : Array Value} (hd : o.data = .fields fs) (h2 : 2 < fs.size) {h0 : Heap} (hx : Heap.ExtBut it h0 s.heap) (hQ : ∀ h',Heap.ExtBut it h0 h'->Q none { s with heap:=h' }) :
  wpAny (model prog w) A.in1 (do setField (.ref it) 2 .none; raiseNew (<- newExc (.type "StopIteration") []) : Sem PySem.Fin) (fun fin s'=>∃ v,fin = .done (.ret v) /\ wpAny (model prog w) A (pure (some v)) Q E s') (fun e s'=>wpAny (model prog w) A (do if <- isInstance e (.type "StopIteration") then pure none else throw e) Q E s') s:=by
 refine wpAny_bind (wpAny_setField ho hd h2 ?_)
 refine wpAny_bind ?_
 simp only [newExc,newTuple]
 refine wpAny_bind (wpAny_newObj_type ?_ (by size_fits))
 refine wpAny_bind (m:=firstArgMember _ _) (wpAny_of_eq (a:=Value.none) (by first | rfl | (simp only [firstArgMember]; rfl)) ?_)
 refine wpAny_newObj_type ?_ (by size_fits)
 simp only [raiseNew]
 refine wpAny_bind (wpAny_handled ?_)
 rw [show A.in1.handled = none from hh]
 refine wpAny_bind (wpAny_pure (wpAny_throw ?_))
 refine wpAny_bind (wpAny_isInstance (T:="StopIteration") (b:=true) ⟨_,Heap.get?_push_size _ rfl,rfl⟩ isSubtype_stop ?_)
 refine wpAny_pure (hQ _ (Heap.ExtBut.push (Heap.ExtBut.push (fun b o hb e=>?_) _) _))
 exact (Heap.SameBut.update ..).extBut b o hb (hx b o hb e)
theorem qo {it a : Addr} {slot next i n ep : Nat} {es : Array (Int × Value)} {t : SetTable} {x : Value} {Q : Option Value->Shared->Prop} (hit : zT s.heap it (.int slot 0) i a n ep) (hS : xI knd s.heap a es ep t) (hn : es.size = n)
  (hsn : ∀ (Q' : Option (Value × Nat)->Shared->Prop) (E' : Value->Shared->Prop),Q' (some (x,next)) s->wpAny (model prog w) A.in1 (setNext a slot i ep) Q' E' s)
  (hQ : ∀ h',zT h' it (.int next 0) (i + 1) a n ep->Heap.SameBut it s.heap h'->Q (some x) { s with heap:=h' }) : wpAny (model prog w) A (pyNext (.ref it)) Q E s:=by
 obtain ⟨o,ho,hc,hd⟩:=id hit
 obtain ⟨oa,hoa,hex,hda,hel,hf⟩:=id hS
 unfold pyNext
 refine wpAny_bind (wpAny_attempt (wpAny_callSpecial?_slot (name:=Str.ofString "__next__") hit.typeIs zX
  (wpAny_call_entry zX hit.typeIs yG ?_ (yQ _))))
 unfold Builtin.«set_iterator.__next__»
 refine wpAny_bind (wpAny_pure ?_)
 refine wpAny_bind (wpAny_fieldsOf ho hd ?_)
 dsimp only
 refine wpAny_bind (wpAny_setEntries_of hoa hda hf ?_)
 rw [if_neg (by simp [hn])]
 simp only [Int.toNat_natCast]
 refine wpAny_bind (hsn _ _ ?_)
 dsimp only
 have hit0:=tF (f':=rawInt next) hit
 refine wpAny_bind (wpAny_setField ho hd (by simp) ?_)
 obtain ⟨o1,ho1,hc1,hd1⟩:=id hit0
 refine wpAny_bind (wpAny_setField ho1 hd1 (by simp) ?_)
 exact wpAny_pure ⟨_,rfl,wpAny_pure (hQ _ (tG hit0) ((Heap.SameBut.update ..).trans (Heap.SameBut.update ..)))⟩
theorem kI {it a : Addr} {slot i n ep : Nat} {es : Array (Int × Value)} {t : SetTable} {Q : Option Value->Shared->Prop} (hh : A.handled = none) (hit : zT s.heap it (.int slot 0) i a n ep) (hS : xI knd s.heap a es ep t) (hn : es.size = n)
  (hsn : ∀ (Q' : Option (Value × Nat)->Shared->Prop) (E' : Value->Shared->Prop),Q' none s->wpAny (model prog w) A.in1 (setNext a slot i ep) Q' E' s)
  (hQ : ∀ h',Heap.ExtBut it s.heap h'->Q none { s with heap:=h' }) : wpAny (model prog w) A (pyNext (.ref it)) Q E s:=by
 obtain ⟨o,ho,hc,hd⟩:=id hit
 obtain ⟨oa,hoa,hex,hda,hel,hf⟩:=id hS
 unfold pyNext
 refine wpAny_bind (wpAny_attempt (wpAny_callSpecial?_slot (name:=Str.ofString "__next__") hit.typeIs zX
  (wpAny_call_entry zX hit.typeIs yG ?_ (yQ _))))
 unfold Builtin.«set_iterator.__next__»
 refine wpAny_bind (wpAny_pure ?_)
 refine wpAny_bind (wpAny_fieldsOf ho hd ?_)
 dsimp only
 refine wpAny_bind (wpAny_setEntries_of hoa hda hf ?_)
 rw [if_neg (by simp [hn])]
 simp only [Int.toNat_natCast]
 refine wpAny_bind (hsn _ _ ?_)
 dsimp only
 exact YM hh ho hd (by simp) (fun b o _ e=>e) hQ
theorem Xw {it a p : Addr} {i n ep k : Nat} {es : Array (Int × Value)} {t : SetTable} {pl : Array Value} {hx : Int} {x : Value} {Q : Option Value->Shared->Prop} (hit : zT s.heap it (.ref p) i a n ep) (hS : xI knd s.heap a es ep t) (hn : es.size = n)
  (hp : s.heap.IsTuple p pl) (hk : pl[i]? = some (.int k 0)) (he : es[k]? = some (hx,x))
  (hQ : ∀ h',zT h' it (.ref p) (i + 1) a n ep->Heap.SameBut it s.heap h'->Q (some x) { s with heap:=h' }) : wpAny (model prog w) A (pyNext (.ref it)) Q E s:=by
 obtain ⟨o,ho,hc,hd⟩:=id hit
 obtain ⟨oa,hoa,hex,hda,hel,hf⟩:=id hS
 obtain ⟨op,hop,hcp,np,hdp⟩:=id hp
 unfold pyNext
 refine wpAny_bind (wpAny_attempt (wpAny_callSpecial?_slot (name:=Str.ofString "__next__") hit.typeIs zX
  (wpAny_call_entry zX hit.typeIs yG ?_ (yQ _))))
 unfold Builtin.«set_iterator.__next__»
 refine wpAny_bind (wpAny_pure ?_)
 refine wpAny_bind (wpAny_fieldsOf ho hd ?_)
 dsimp only
 refine wpAny_bind (wpAny_setEntries_of hoa hda hf ?_)
 rw [if_neg (by simp [hn])]
 simp only [Int.toNat_natCast]
 refine wpAny_bind (wpAny_seqItems hop hdp ?_)
 dsimp only
 rw [hk]
 dsimp only
 refine wpAny_bind ?_
 unfold setNextDrawn
 refine wpAny_bind (wpAny_setState_of hoa hda hf ?_)
 dsimp only
 rw [if_neg (by simp)]
 simp only [Int.toNat_natCast,he]
 refine wpAny_pure ?_
 refine wpAny_bind (wpAny_setField ho hd (by simp) ?_)
 exact wpAny_pure ⟨_,rfl,wpAny_pure (hQ _ (tG hit) (Heap.SameBut.update ..))⟩
theorem Va {it a p : Addr} {i n ep : Nat} {es : Array (Int × Value)} {t : SetTable} {pl : Array Value} {Q : Option Value->Shared->Prop} (hh : A.handled = none) (hit : zT s.heap it (.ref p) i a n ep) (hS : xI knd s.heap a es ep t) (hn : es.size = n)
  (hp : s.heap.IsTuple p pl) (hk : pl[i]? = none)
  (hQ : ∀ h',Heap.ExtBut it s.heap h'->Q none { s with heap:=h' }) : wpAny (model prog w) A (pyNext (.ref it)) Q E s:=by
 obtain ⟨o,ho,hc,hd⟩:=id hit
 obtain ⟨oa,hoa,hex,hda,hel,hf⟩:=id hS
 obtain ⟨op,hop,hcp,np,hdp⟩:=id hp
 unfold pyNext
 refine wpAny_bind (wpAny_attempt (wpAny_callSpecial?_slot (name:=Str.ofString "__next__") hit.typeIs zX
  (wpAny_call_entry zX hit.typeIs yG ?_ (yQ _))))
 unfold Builtin.«set_iterator.__next__»
 refine wpAny_bind (wpAny_pure ?_)
 refine wpAny_bind (wpAny_fieldsOf ho hd ?_)
 dsimp only
 refine wpAny_bind (wpAny_setEntries_of hoa hda hf ?_)
 rw [if_neg (by simp [hn])]
 simp only [Int.toNat_natCast]
 refine wpAny_bind (wpAny_seqItems hop hdp ?_)
 dsimp only
 rw [hk]
 dsimp only
 have hit0:=tF (f':=rawInt 0) hit
 refine wpAny_bind (wpAny_setField ho hd (by simp) ?_)
 obtain ⟨o1,ho1,hc1,hd1⟩:=id hit0
 exact YM (s:={ s with heap:=_ }) hh ho1 hd1 (by simp) (Heap.SameBut.update ..).extBut hQ
end
theorem vP {α : Type} : ∀ {l : List α} {i : Nat} (h : i < l.length),(l[i]::l.eraseIdx i).Perm l
 | x::xs,0,h=>List.Perm.refl _
 | x::xs,i + 1,h=>by
  show (xs[i]'(by simpa using h)::x::xs.eraseIdx i).Perm (x::xs)
  exact (List.Perm.swap _ _ _).trans (List.Perm.cons _ (vP (by simpa using h)))
theorem Vb {α : Type} (next : Nat->Nat) : ∀ (fuel k : Nat) (left : List α) (out : Array α),left.length <= fuel->(pickOrder.go next fuel k left out).toList.Perm (out.toList++left)
 | 0,k,left,out,h=>by
  have : left = []:=List.eq_nil_of_length_eq_zero (by omega)
  subst this
  simp [pickOrder.go]
 | fuel + 1,k,left,out,h=>by
  unfold pickOrder.go
  cases left with
  | nil=>simp
  | cons x xs=>
   have hlt : next k % (x::xs).length < (x::xs).length:=Nat.mod_lt _ (by simp)
   generalize hi : next k % (x::xs).length = i at *
   rw [List.getElem?_eq_getElem hlt]
   dsimp only
   refine (Vb next fuel (k + 1) _ _ (by rw [List.length_eraseIdx]; split <;> simp at * <;> omega)).trans ?_
   rw [Array.toList_push,List.append_assoc]
   refine List.Perm.append_left _ ?_
   exact (vP hlt)
theorem Vc {α : Type} (next : Nat->Nat) (xs : Array α) : (pickOrder next xs).toList.Perm xs.toList:=by
 have:=Vb next xs.size 0 xs.toList #[] (by simp)
 unfold pickOrder
 simpa using this
theorem kJ {M : Model} {A : Around} {E : Value->Shared->Prop} {s : Shared} {src : Source} {n : Nat} {Q : Nat->Shared->Prop} (hn : n ≠ 0) (h : ∀ i,i < n->Q i { s with drawn:=s.drawn.bump src }) : wpAny M A (choose src n) Q E s:=fun Γ p hΓ=>by
 show Sem.wp M Γ (.choose src n .pure) _ _ p s
 rw [Sem.wp_choose]
 refine ⟨hn,?_⟩
 have:=h (M.w.draws src (s.drawn.get src) % n) (Nat.mod_lt _ (by omega))
 exact (wpAny_pure (M:=M) (A:=A) (E:=E) this) Γ p hΓ
theorem v9 {α : Type} {M : Model} {A : Around} {E : Value->Shared->Prop} : ∀ (n : Nat) (xs : List α) {s : Shared} {Q : List α->Shared->Prop},n = xs.length->(∀ ys d,ys.Perm xs->Q ys { s with drawn:=d })->wpAny M A (drawOrder n xs) Q E s
 | 0,xs,s,Q,hn,h=>by
  have : xs = []:=List.eq_nil_of_length_eq_zero hn.symm
  subst this
  unfold drawOrder
  exact wpAny_pure (h [] s.drawn (List.Perm.refl _))
 | n + 1,[],s,Q,hn,h=>by cases hn
 | n + 1,x::xs,s,Q,hn,h=>by
  unfold drawOrder
  refine wpAny_bind (kJ (by simp) fun i hi=>?_)
  rw [List.getElem?_eq_getElem hi]
  dsimp only
  refine wpAny_bind (v9 n _ (by rw [List.length_eraseIdx,if_pos hi]; simp at *; omega) fun ys d hp=>wpAny_pure (h _ d ?_))
  exact (List.Perm.cons _ hp).trans (vP hi)
section
variable {prog : Program} {w : World} {K : Type} [DecidableEq K] {knd : KeyKind prog w K} {A : Around} {E : Value->Shared->Prop} {s : Shared}
theorem vk {Q : Bool->Shared->Prop} (h : Q (w.params.followText "set-order") s) : wpAny (model prog w) A setsByText Q E s:=by
 unfold setsByText
 exact wpAny_bind (wpAny_askSetting (wpAny_pure h))
theorem ua {a : Addr} {slot i ep : Nat} {es : Array (Int × Value)} {t : SetTable} {Q : Option (Value × Nat)->Shared->Prop} (hS : xI knd s.heap a es ep t) (hb : w.params.followText "set-order" = true)
  (h : Q (((pickOrder (w.params.setOrder a ep) es)[i]?).map fun e=>(e.2,slot)) s) : wpAny (model prog w) A (setNext a slot i ep) Q E s:=by
 obtain ⟨oa,hoa,hex,hda,hel,hf⟩:=hS
 unfold setNext
 refine wpAny_bind (wpAny_setState_of hoa hda hf ?_)
 dsimp only
 refine wpAny_bind (vk ?_)
 rw [hb,if_pos rfl,if_neg (by simp)]
 refine wpAny_bind ?_
 unfold setWalk
 refine wpAny_bind (wpAny_setState_of hoa hda hf ?_)
 dsimp only
 refine wpAny_bind (vk ?_)
 rw [hb,if_pos rfl]
 exact wpAny_bind (wpAny_askSetting (wpAny_pure (wpAny_pure h)))
theorem ub {a : Addr} {slot i ep : Nat} {es : Array (Int × Value)} {t : SetTable} {Q : Option (Value × Nat)->Shared->Prop} (hS : xI knd s.heap a es ep t) (hb : w.params.followText "set-order" = false) (hl : t.led = true) (h1 : es.size <= 1)
  (h : Q (match es[SetTable.below t.place slot]?,t.place[SetTable.below t.place slot]? with | some (_,x),some j=>some (x,j + 1) | _,_=>none) s) : wpAny (model prog w) A (setNext a slot i ep) Q E s:=by
 obtain ⟨oa,hoa,hex,hda,hel,hf⟩:=hS
 unfold setNext
 refine wpAny_bind (wpAny_setState_of hoa hda hf ?_)
 dsimp only
 refine wpAny_bind (vk ?_)
 rw [hb,if_neg Bool.false_ne_true]
 refine wpAny_ite_split (fun c=>?_) fun _=>?_
 ·have c : (!t.plain && decide (es.size > 1)) = true:=c
  rw [decide_eq_false (by omega),Bool.and_false] at c
  cases c
 ·refine wpAny_bind ?_
  refine wpAny_ite_split (fun c=>?_) fun _=>?_
  ·have c : (!t.led && !es.isEmpty) = true:=c
   rw [hl] at c
   cases c
  ·exact wpAny_pure (wpAny_pure h)
end
section
variable {prog : Program} {w : World} {K : Type} [DecidableEq K] {knd : KeyKind prog w K} {A : Around} {E : Value->Shared->Prop} {s : Shared}
def je (w : World) (es : Array (Int × Value)) (t : SetTable) : Prop:=w.params.followText "set-order" = true \/ (t.led = true /\ (t.plain = false \/ es.size = 0))
structure SetWalk (prog : Program) (w : World) (A : Around) (it : Addr) (fp : List Addr) (vs : List Value) (St : Nat->Heap->Prop) : Prop where
 sub : it ∈ fp
 frame : ∀ i h h',St i h->(∀ b ∈ fp,∀ o,h.get? b = some o->h'.get? b = some o)->St i h'
 item : ∀ i (s : Shared) (Q : Option Value->Shared->Prop) (E : Value->Shared->Prop),i < vs.length->St i s.heap->
  (∀ v h',vs[i]? = some v->St (i + 1) h'->Heap.SameBut it s.heap h'->Q (some v) { s with heap:=h' })->wpAny (model prog w) A (pyNext (.ref it)) Q E s
 done : ∀ (s : Shared) (Q : Option Value->Shared->Prop) (E : Value->Shared->Prop),St vs.length s.heap->(∀ h',Heap.ExtBut it s.heap h'->Q none { s with heap:=h' })->wpAny (model prog w) A (pyNext (.ref it)) Q E s
theorem kK {j k : Nat} : SetTable.below #[j] k = if j < k then 1 else 0:=by
 unfold SetTable.below
 show SetTable.below.go #[j] k 1 0 1 = _
 unfold SetTable.below.go
 simp only [Nat.zero_lt_one,if_true]
 show (if (#[j] : Array Nat).getD 0 k < k then SetTable.below.go #[j] k 0 1 1 else SetTable.below.go #[j] k 0 0 0) = _
 show (if j < k then _ else _) = _
 split <;> rfl
theorem qp {t : SetTable} {n : Nat} (h : t.fits n = true) : t.place.size = n:=by
 unfold SetTable.fits at h
 rw [Bool.and_eq_true] at h
 simpa using h.1
theorem Vd (hb : w.params.followText "set-order" = true) (hh : A.handled = none) {it a : Addr} (hne : a ≠ it) {es : Array (Int × Value)} {ep : Nat} {t : SetTable} :
  SetWalk prog w A it [it,a] ((pickOrder (w.params.setOrder a ep) es).toList.map (·.2)) (fun i h=>zT h it (.int (0 : Nat) 0) i a es.size ep /\ xI knd h a es ep t) where
 sub:=by simp
 frame:=fun i h h' st k=>⟨st.1.at fun o e=>k it (by simp) o e,st.2.at fun o e=>k a (by simp) o e⟩
 item:=fun i s Q E hi st hQ=>by
  rw [List.length_map] at hi
  refine qo (next:=0) (x:=(pickOrder (w.params.setOrder a ep) es).toList[i].2) st.1 st.2 rfl (fun Q' E' q=>ua st.2 hb ?_) fun h' i' sb=>hQ _ h' (by rw [List.getElem?_map,List.getElem?_eq_getElem hi]; rfl) ⟨i',st.2.at fun o e=>(sb.2 a hne).trans e⟩ sb
  rw [<- Array.getElem?_toList,List.getElem?_eq_getElem hi]
  exact q
 done:=fun s Q E st hQ=>by
  refine kI hh st.1 st.2 rfl (fun Q' E' q=>ua st.2 hb ?_) hQ
  rw [<- Array.getElem?_toList,List.getElem?_eq_none (by simp)]
  exact q
theorem Ve (hb : w.params.followText "set-order" = false) (hh : A.handled = none) {it a : Addr} (hne : a ≠ it) {es : Array (Int × Value)} {ep : Nat} {t : SetTable} (hl : t.led = true) (h1 : es.size <= 1) :
  SetWalk prog w A it [it,a] (es.toList.map (·.2)) (fun i h=>∃ slot : Nat,zT h it (.int slot 0) i a es.size ep /\ xI knd h a es ep t /\ ((i = 0 /\ slot = 0) \/ (i = 1 /\ ∃ j,t.place = #[j] /\ slot = j + 1))) where
 sub:=by simp
 frame:=fun i h h' st k=>let ⟨sl,st1,st2,r⟩:=st; ⟨sl,st1.at fun o e=>k it (by simp) o e,st2.at fun o e=>k a (by simp) o e,r⟩
 item:=fun i s Q E hi st hQ=>by
  obtain ⟨sl,st1,st2,r⟩:=st
  rw [List.length_map,Array.length_toList] at hi
  have hi0 : i = 0:=by omega
  have hz : es.size = 1:=by omega
  subst hi0
  have hs0 : sl = 0:=by
   rcases r with r | r
   ·exact r.2
   ·exact absurd r.1 (by decide)
  subst hs0
  obtain ⟨_,_,_,_,_,hf⟩:=id st2
  have hps:=qp hf
  obtain ⟨j,hj⟩ : ∃ j,t.place = #[j]:=Array.size_eq_one_iff.mp (hps.trans hz)
  have hes : ∃ e,es = #[e]:=Array.size_eq_one_iff.mp hz
  obtain ⟨e,rfl⟩:=hes
  refine qo (next:=j + 1) (x:=e.2) st1 st2 rfl (fun Q' E' q=>ub st2 hb hl (by omega) ?_) fun h' i' sb=>hQ _ h' rfl ⟨j + 1,i',st2.at fun o e=>(sb.2 a hne).trans e,.inr ⟨rfl,j,hj,rfl⟩⟩ sb
  rw [hj,kK,if_neg (Nat.not_lt_zero j)]
  exact q
 done:=fun s Q E st hQ=>by
  obtain ⟨sl,st1,st2,r⟩:=st
  obtain ⟨_,_,_,_,_,hf⟩:=id st2
  have hps:=qp hf
  refine kI hh st1 st2 rfl (fun Q' E' q=>ub st2 hb hl (by omega) ?_) hQ
  rcases r with r | ⟨r,j,hj,rfl⟩
  ·have hz : es.size = 0:=by have:=r.1; simpa using this
   have : es = #[]:=Array.eq_empty_of_size_eq_zero hz
   subst this
   exact q
  ·have hz : es.size = 1:=by have:=r; simpa using this
   obtain ⟨e,rfl⟩:=Array.size_eq_one_iff.mp hz
   rw [hj,kK,if_pos (Nat.lt_succ_self j)]
   exact q
theorem Xx (hh : A.handled = none) {it a p : Addr} (hne : a ≠ it) (hnp : p ≠ it) {es : Array (Int × Value)} {ep : Nat} {t : SetTable} {ix : List Nat} (hix : ix.Perm (List.range es.size)) :
  SetWalk prog w A it [it,a,p] (ix.map fun k=>(es.getD k (0,.none)).2) (fun i h=>zT h it (.ref p) i a es.size ep /\ xI knd h a es ep t /\ h.IsTuple p (ix.map fun k=>Value.int (k : Nat) 0).toArray) where
 sub:=by simp
 frame:=fun i h h' st k=>⟨st.1.at fun o e=>k it (by simp) o e,st.2.1.at fun o e=>k a (by simp) o e,let ⟨o,e,r⟩:=st.2.2; ⟨o,k p (by simp) o e,r⟩⟩
 item:=fun i s Q E hi st hQ=>by
  rw [List.length_map] at hi
  have hk : ix[i] < es.size:=by simpa using hix.mem_iff.mp (List.getElem_mem hi)
  refine Xw (k:=ix[i]) (hx:=es[ix[i]].1) (x:=es[ix[i]].2) st.1 st.2.1 rfl st.2.2 (by simp [hi]) (by rw [Array.getElem?_eq_getElem hk]) fun h' i' sb=>hQ _ h' (by simp [hi,Array.getD,hk]) ⟨i',st.2.1.at fun o e=>(sb.2 a hne).trans e,let ⟨o,e,r⟩:=st.2.2; ⟨o,(sb.2 p hnp).trans e,r⟩⟩ sb
 done:=fun s Q E st hQ=>Va hh st.1 st.2.1 rfl st.2.2 (by simp) hQ
theorem Xy {a : Addr} {es : Array (Int × Value)} {ep : Nat} {t : SetTable} {Q : Value->Shared->Prop} (hS : xI knd s.heap a es ep t) (hw : je w es t) (hb0 : es.size < 4096)
  (q : ∀ (vs : List Value) (h' : Heap) (d : Drawn) (it : Addr) (fp : List Addr) (St : Nat->Heap->Prop),vs.Perm (es.toList.map (·.2))->(∀ A : Around,A.handled = none->SetWalk prog w A it fp vs St)->St 0 h'->s.heap.objs.size <= it->it < h'.objs.size->(∀ b ∈ fp,b = a \/ s.heap.objs.size <= b)->(∀ b o,s.heap.get? b = some o->h'.get? b = some o)->Q (.ref it) { s with heap:=h',drawn:=d }) :
  wpAny (model prog w) A (pyIter (.ref a)) Q E s:=by
 obtain ⟨oa,hoa,hex,hda,hel,hf⟩:=id hS
 have hT : s.TypeIs (.ref a) "set":=⟨oa,hoa,hex.1⟩
 have haS : a < s.heap.objs.size:=Heap.lt_size hoa
 refine wpAny_pyIter_slot hT F.slot_set_iter (wpAny_call_entry F.slot_set_iter hT t4 ?_ (F.args_set_iter_1 _))
 unfold Builtin.«frozenset.__iter__»
 refine wpAny_bind (m:=Builtin.Frozenset.slot0 _ _) (wpAny_pure ?_)
 refine wpAny_bind (m:=Builtin.Frozenset.sizeOf a) (wpAny_bind (wpAny_setEntries_of hoa hda hf (wpAny_pure ?_)))
 have epoch : ∀ (s1 : Shared) (Q1 : Nat->Shared->Prop),xI knd s1.heap a es ep t->Q1 ep s1->wpAny (model prog w) A.in1 (setEpoch a) Q1 E s1:=fun s1 Q1 S1 q1=>by
  obtain ⟨oa,hoa,hex,hda,hel,hf⟩:=S1
  unfold setEpoch
  exact wpAny_bind (wpAny_setState_of hoa hda hf (wpAny_pure q1))
 have fin : ∀ (h1 : Heap) (d : Drawn) (first : Value) (vs : List Value) (fp : List Addr) (St : Nat->Heap->Prop),(∀ b o,s.heap.get? b = some o->h1.get? b = some o)->s.heap.objs.size <= h1.objs.size->vs.Perm (es.toList.map (·.2))->
   (∀ A : Around,A.handled = none->SetWalk prog w A h1.objs.size fp vs St)->(∀ b ∈ fp,b = a \/ s.heap.objs.size <= b)->
   (∀ h2,zT h2 h1.objs.size first 0 a es.size ep->(∀ b o,h1.get? b = some o->h2.get? b = some o)->St 0 h2)->
   wpAny (model prog w) A.in1 (do
    let e <- setEpoch a
    let r <- newFields "set_iterator" [first,rawInt 0,Value.ref a,rawInt (es.size : Nat),rawInt (e : Nat)]
    ret r : Sem PySem.Fin) (fun fin s'=>∃ v,fin = Fin.done (Flow.ret v) /\ ∃ T' r,s'.TypeIs v T' /\ typeLookup (Value.type T') (Str.ofString "__next__") = pure (some r) /\ Q v s') E { s with heap:=h1,drawn:=d }:=by
  intro h1 d first vs fp St keep hle hp W hfp hst
  refine wpAny_bind (epoch { s with heap:=h1,drawn:=d } _ (hS.at fun o e=>keep _ _ e) ?_)
  refine wpAny_bind (wpAny_newObj_type (wpAny_pure ⟨_,rfl,"set_iterator",_,⟨_,Heap.get?_push_size _ rfl,rfl⟩,zX.lookup,?_⟩))
  refine q vs _ d h1.objs.size fp St hp W (hst _ ⟨_,Heap.get?_push_size _ rfl,rfl,by simp [rawInt]⟩ fun b o e=>Heap.get?_push_of_some _ e) hle (by rw [Heap.size_push]; exact Nat.lt_succ_self _) hfp fun b o e=>Heap.get?_push_of_some _ (keep b o e)
 refine wpAny_bind ?_
 unfold setDrawn
 refine wpAny_bind (wpAny_setState_of hoa hda hf ?_)
 dsimp only
 refine wpAny_bind (vk (wpAny_pure ?_))
 cases hb : w.params.followText "set-order" with
 | true=>
  show wpAny _ _ (if (false && _) = true then _ else _) _ _ _
  rw [Bool.false_and,if_neg Bool.false_ne_true]
  refine wpAny_bind (wpAny_pure ?_)
  refine fin s.heap s.drawn (rawInt 0) ((pickOrder (w.params.setOrder a ep) es).toList.map (·.2)) [s.heap.objs.size,a] _ (fun _ _ e=>e) (Nat.le_refl _) ((Vc _ es).map _) (fun A hh=>Vd (knd:=knd) (t:=t) hb hh (Nat.ne_of_lt haS)) (fun b hb'=>?_) fun h2 i2 k2=>⟨i2,hS.at fun o e=>k2 _ _ e⟩
  simp only [List.mem_cons,List.not_mem_nil,or_false] at hb'
  rcases hb' with rfl | rfl
  ·exact .inr (Nat.le_refl _)
  ·exact .inl rfl
 | false=>
  obtain ⟨hl,hpz⟩ : t.led = true /\ (t.plain = false \/ es.size = 0):=hw.resolve_left (by rw [hb]; exact Bool.false_ne_true)
  by_cases h1 : es.size <= 1
  ·refine wpAny_ite_split (fun c=>?_) fun _=>?_
   ·have c : (!t.plain && decide (es.size > 1)) = true:=c
    rw [decide_eq_false (by omega),Bool.and_false] at c
    cases c
   ·refine wpAny_bind (wpAny_pure ?_)
    refine fin s.heap s.drawn (rawInt 0) (es.toList.map (·.2)) [s.heap.objs.size,a] _ (fun _ _ e=>e) (Nat.le_refl _) (List.Perm.refl _) (fun A hh=>Ve (knd:=knd) (t:=t) hb hh (Nat.ne_of_lt haS) hl h1) (fun b hb'=>?_) fun h2 i2 k2=>⟨0,i2,hS.at fun o e=>k2 _ _ e,.inl ⟨rfl,rfl⟩⟩
    simp only [List.mem_cons,List.not_mem_nil,or_false] at hb'
    rcases hb' with rfl | rfl
    ·exact .inr (Nat.le_refl _)
    ·exact .inl rfl
  ·have hpl : t.plain = false:=hpz.resolve_right (by omega)
   refine wpAny_ite_split (fun _=>?_) fun c=>?_
   ·refine wpAny_bind (v9 es.size _ (by simp) fun ix d hix=>?_)
    refine wpAny_bind (wpAny_newObj_type ?_ ?_)
    ·have hnew : (s.heap.push { cls:=.type "tuple",data:=.seq (ix.map fun i=>rawInt (i : Nat)).toArray }).objs.size = s.heap.objs.size + 1:=by rw [Heap.size_push]
     refine fin _ d (.ref s.heap.objs.size) (ix.map fun k=>(es.getD k (0,.none)).2) [(s.heap.push { cls:=.type "tuple",data:=.seq (ix.map fun i=>rawInt (i : Nat)).toArray }).objs.size,a,s.heap.objs.size] _ (fun b o e=>Heap.get?_push_of_some _ e) (by rw [hnew]; omega) ?_
      (fun A hh=>Xx (knd:=knd) (t:=t) hh (by rw [hnew]; exact Nat.ne_of_lt (Nat.lt_succ_of_lt haS)) (by rw [hnew]; exact Nat.ne_of_lt (Nat.lt_succ_self _)) hix) (fun b hb'=>?_) fun h2 i2 k2=>⟨i2,hS.at fun o e=>k2 _ _ (Heap.get?_push_of_some _ e),_,k2 _ _ (Heap.get?_push_size _ rfl),rfl,0,rfl⟩
     ·have e : (List.range es.size).map (fun k=>(es.getD k (0,.none)).2) = es.toList.map (·.2):=by
       apply List.ext_getElem
       ·simp
       ·intro k h1 h2
        simp at h1
        simp [Array.getD,h1]
      rw [<- e]
      exact hix.map _
     ·simp only [List.mem_cons,List.not_mem_nil,or_false] at hb'
      rcases hb' with rfl | rfl | rfl
      ·exact .inr (by rw [hnew]; exact Nat.le_succ _)
      ·exact .inl rfl
      ·exact .inr (Nat.le_refl _)
    ·show (ix.map fun i=>rawInt (i : Nat)).toArray.size <= sizeLine
     rw [List.size_toArray,List.length_map,hix.length_eq,List.length_range,sizeLine_eq]
     omega
   ·have c : ¬ (!t.plain && decide (es.size > 1)) = true:=c
    rw [hpl,decide_eq_true (by omega)] at c
    exact absurd rfl c
end
theorem Jf : typeLookup (.type "set") "__len__" = pure (some (.builtin "set.__len__")):=by rw [typeLookup_type,builtinLookup_eq_fast]; kernel_rfl
section
variable {prog : Program} {w : World} {K : Type} [DecidableEq K] {knd : KeyKind prog w K} {A : Around} {E : Value->Shared->Prop} {s : Shared}
theorem Xz {it : Addr} {fp : List Addr} {vs : List Value} {St : Nat->Heap->Prop} {R : Result->Shared->Prop} (W : SetWalk prog w A.in1 it fp vs St) (hn : vs.length <= sizeLine) (S : Addr) (hSf : S ∉ fp) (res : Value) :
  ∀ (k i : Nat) (s : Shared) (acc : Array Value) (c : Nat),vs.length - i = k->i <= vs.length->St i s.heap->s.heap.get? S = some { cls:=.type "list",dict:=none,data:=.seq acc c,slots:=#[] }->acc.toList = vs.take i->
  (∀ h' acc' c',(∀ b o,b ≠ S->b ≠ it->s.heap.get? b = some o->h'.get? b = some o)->h'.get? S = some { cls:=.type "list",dict:=none,data:=.seq acc' c',slots:=#[] }->acc'.toList = vs->R (.ok (.ret res)) { s with heap:=h' })->
  codeAny (model prog w) A (.builtin "list.extend.loop" ⟨[.ref S,.ref it,res],[]⟩) R s:=by
 have hSi : S ≠ it:=fun z=>hSf (z ▸ W.sub)
 intro k
 induction k with
 | zero=>
  intro i s acc c hk hi hst hS hacc hR
  have hin : i = vs.length:=by omega
  subst hin
  refine codeAny_builtin F.entry_extend_loop ?_
  rw [Around.under_plainId F.plain_extend_loop _]
  show wpAny _ A.in1 (pyNext (.ref it) >>= _) _ _ s
  refine wpAny_bind (W.done s _ _ hst fun h' hm=>?_)
  exact wpAny_pure (hR h' acc c (fun b o _ hb e=>hm b o hb e) (hm S _ hSi hS) (by rw [hacc,List.take_length]))
 | succ k ih=>
  intro i s acc c hk hi hst hS hacc hR
  have hlt : i < vs.length:=by omega
  refine codeAny_builtin F.entry_extend_loop ?_
  rw [Around.under_plainId F.plain_extend_loop _]
  show wpAny _ A.in1 (pyNext (.ref it) >>= _) _ _ s
  refine wpAny_bind (W.item i s _ _ hlt hst fun v h' hv hst' hm=>?_)
  have hS' : h'.get? S = some { cls:=.type "list",dict:=none,data:=.seq acc c,slots:=#[] }:=(hm.2 S hSi).trans hS
  have hsz : acc.size = i:=by rw [<- Array.length_toList,hacc,List.length_take]; omega
  show wpAny _ A.in1 (updateSeq S (·.push v) >>= _) _ _ _
  refine wpAny_bind ?_
  refine wpAny_updateSeq (s:={ s with heap:=h' }) hS' rfl (wpAny_pure ⟨plainId_quiet F.plain_extend_loop _,ih (i + 1) _ (acc.push v) _ (by omega) hlt (W.frame _ h' _ hst' fun b hb o e=>?_) (Heap.get?_update_self _ hS' rfl) ?_ fun h'' acc' c' hk'' hS'' hacc'=>?_⟩)
   (by rw [hsz]; omega) (by show (acc.push v).size <= sizeLine + 1; rw [Array.size_push,hsz]; omega)
  ·exact (Heap.get?_update_other _ _ (fun h : S = b=>hSf (by rw [h]; exact hb))).trans e
  ·rw [Array.toList_push,hacc,List.take_add_one,hv]; rfl
  ·refine hR h'' acc' c' (fun b o hb1 hb2 e=>hk'' b o hb1 hb2 ?_) hS'' hacc'
   exact (Heap.get?_update_other _ _ (fun h : S = b=>hb1 h.symm)).trans ((hm.2 b hb2).trans e)
theorem ZR {a : Addr} {es : Array (Int × Value)} {ep : Nat} {t : SetTable} {Q : List Value->Shared->Prop} (hh : A.handled = none) (hS : xI knd s.heap a es ep t) (hw : je w es t) (hb0 : es.size < 4096)
  (hQ : ∀ vs h' d,vs.Perm (es.toList.map (·.2))->(∀ b o,s.heap.get? b = some o->h'.get? b = some o)->s.heap.objs.size <= h'.objs.size->Q vs { s with heap:=h',drawn:=d }) : wpAny (model prog w) A (collect (.ref a)) Q E s:=by
 obtain ⟨oa,hoa,hex,hda,hel,hf⟩:=id hS
 have haS : a < s.heap.objs.size:=Heap.lt_size hoa
 unfold collect
 refine wpAny_bind (wpAny_runValue (codeAny_builtin F.entry_proto_collect ?_))
 rw [Around.under_plainId F.plain_proto_collect _]
 show wpAny _ A.in1 (newList [] >>= fun l=>again (.builtin "list.__iadd__" ⟨[l,.ref a],[]⟩)) _ _ s
 refine wpAny_bind (wpAny_newObj_type ?_)
 refine wpAny_pure ⟨plainId_quiet F.plain_list_iadd _,codeAny_builtin F.entry_list_iadd ?_⟩
 rw [Around.under_plainId F.plain_list_iadd _]
 show wpAny _ A.in1 (Builtin.List.listExtendWith (.ref s.heap.objs.size) (.ref a) (.ref s.heap.objs.size)) _ _ _
 unfold Builtin.List.listExtendWith
 have S1 : xI knd (s.heap.push { cls:=.type "list",data:=.seq ([] : List Value).toArray }) a es ep t:=hS.at fun o e=>Heap.get?_push_of_some _ e
 have T1 : Shared.TypeIs { s with heap:=s.heap.push { cls:=.type "list",data:=.seq ([] : List Value).toArray } } (.ref a) "set":=⟨oa,Heap.get?_push_of_some _ hoa,hex.1⟩
 refine wpAny_bind (wpAny_typeOf T1 ?_)
 have h1 : Builtin.List.listSameRef (.ref s.heap.objs.size) (.ref a) = false:=by simp [Builtin.List.listSameRef]; exact Nat.ne_of_gt haS
 have h2 : (Value.type "set" == Value.type "list") = false:=by decide
 have h3 : (Value.type "set" == Value.type "tuple") = false:=by decide
 simp only [h1,h2,h3,Bool.or_false,Bool.false_eq_true,if_false]
 refine wpAny_bind (Xy S1 hw hb0 fun vs h' d it fp St hp W hst hit hit2 hfp keep=>?_)
 refine wpAny_bind (wpAny_holding ?_)
 unfold Builtin.List.listLengthHint
 have T2 : Shared.TypeIs { s with heap:=h',drawn:=d } (.ref a) "set":=⟨oa,keep _ _ (Heap.get?_push_of_some _ hoa),hex.1⟩
 refine wpAny_bind (wpAny_specialOf T2 Jf ?_)
 wp_delta
 refine wpAny_bind (wpAny_isInstance T2 (b:=true) (by rw [isSubtype_type]; kernel_rfl) ?_)
 show wpAny _ A.in1 (typeOf (Value.ref a) >>= _) _ _ _
 refine wpAny_bind (wpAny_typeOf T2 ?_)
 refine wpAny_pure ?_
 rw [if_pos (by decide)]
 refine wpAny_bind (wpAny_rule ?_)
 generalize hH : s.heap.push { cls:=.type "list",data:=.seq ([] : List Value).toArray } = H at *
 have hHs : H.objs.size = s.heap.objs.size + 1:=by rw [<- hH,Heap.size_push]
 have hS0 : H.get? s.heap.objs.size = some { cls:=.type "list",data:=.seq ([] : List Value).toArray }:=hH ▸ Heap.get?_push_size _ rfl
 have hS1 : h'.get? s.heap.objs.size = some { cls:=.type "list",data:=.seq ([] : List Value).toArray }:=keep _ _ hS0
 refine wpAny_bind ?_
 show wpAny _ A.in1 (updateSeq s.heap.objs.size (·.push .none) >>= fun _=>updateSeq s.heap.objs.size (·.pop)) _ _ _
 refine wpAny_bind (wpAny_updateSeq hS1 rfl ?_)
 have hS2:=Heap.get?_update_self (Obj.mapSeq (·.push Value.none)) hS1 rfl
 refine wpAny_updateSeq hS2 rfl ?_
 have hS3:=Heap.get?_update_self (Obj.mapSeq (·.pop)) hS2 rfl
 have oth : ∀ b o,b ≠ s.heap.objs.size->h'.get? b = some o->((h'.update s.heap.objs.size (Obj.mapSeq (·.push Value.none))).update s.heap.objs.size (Obj.mapSeq (·.pop))).get? b = some o:=
  fun b o hb e=>(Heap.get?_update_other _ _ (Ne.symm hb)).trans ((Heap.get?_update_other _ _ (Ne.symm hb)).trans e)
 have hSf : s.heap.objs.size ∉ fp:=fun hm=>by
  rcases hfp _ hm with z | z
  ·exact absurd haS (by rw [<- z]; exact Nat.lt_irrefl _)
  ·rw [hHs] at z; exact absurd z (Nat.not_succ_le_self _)
 have hlen : vs.length = es.size:=by rw [hp.length_eq]; simp
 refine wpAny_pure ⟨plainId_quiet F.plain_extend_loop _,Xz (W A.in1 hh) (by rw [hlen,sizeLine_eq]; omega) _ hSf _ vs.length 0 _ _ _ rfl (Nat.zero_le _) ((W A.in1 hh).frame 0 h' _ hst fun b hb o e=>oth b o (fun h=>hSf (h ▸ hb)) e) hS3 rfl fun h'' acc' c' hk hS' hacc=>?_⟩
 show wpAny _ A (load s.heap.objs.size >>= _) _ _ _
 refine wpAny_bind (wpAny_load hS' ?_)
 have:=hQ vs h'' d hp (fun b o e=>?_) (Nat.le_of_lt (Heap.lt_size hS'))
 ·exact wpAny_pure (by rw [hacc]; exact this)
 ·have hlt:=Heap.lt_size e
  refine hk b o (Nat.ne_of_lt hlt) (fun z=>?_) (oth b o (Nat.ne_of_lt hlt) (keep b o (hH ▸ Heap.get?_push_of_some _ e)))
  rw [z] at hlt
  rw [hHs] at hit
  exact absurd (Nat.lt_of_lt_of_le hlt (Nat.le_of_succ_le hit)) (Nat.lt_irrefl _)
end
def kz (e : Int × Value) : Str:=match e.2 with | .str z _=>z | _=>""
structure StrsSet (prog : Program) (w : World) (h : Heap) (a : Addr) (xs : List Str) (es : Array (Int × Value)) : Prop where
 ex : ∃ ep t,xI (strKind prog w) h a es ep t /\ t.led = !w.params.followText "set-order" /\ (t.plain = false \/ es.size = 0)
 txts : ∀ e ∈ es.toList,∃ z tk,e.2 = .str z tk
 nd : (es.toList.map kz).Nodup
 mem : ∀ z,z ∈ es.toList.map kz ↔ z ∈ xs
 len : es.size <= xs.length
theorem YN {e : Int × Value} {z : Str} (h : ∃ z tk,e.2 = .str z tk) : Value.isStrOf z e.2 = true ↔ kz e = z:=by
 obtain ⟨z',tk,e'⟩:=h
 unfold kz
 rw [e']
 refine ⟨fun h=>?_,fun h=>?_⟩
 ·obtain ⟨t,e⟩:=Value.isStrOf_shape h
  injection e
 ·have h : z' = z:=h
  subst h
  simp [Value.isStrOf]
section
variable {prog : Program} {w : World} {A : Around} {E : Value->Shared->Prop} {s : Shared}
theorem UV {a : Addr} {xs : List Str} {es : Array (Int × Value)} {z : Str} {tk : Tok} {Q : Bool->Shared->Prop} (hS : StrsSet prog w s.heap a xs es) (hb : xs.length + 1 < 4096)
  (q : ∀ b h' es',Heap.SameBut a s.heap h'->StrsSet prog w h' a (xs++[z]) es'->Q b { s with heap:=h' }) : wpAny (model prog w) A (setAddHashed a (.str z tk) ((strKind prog w).hash z)) Q E s:=by
 obtain ⟨ep,t,hA,hl,hpl⟩:=hS.ex
 have hlen:=hS.len
 refine ZQ (knd:=strKind prog w) (k:=z) (by show Value.isStrOf z (.str z tk) = true; simp [Value.isStrOf]) rfl hA (by show _ < 4096; omega) (fun ⟨e,he,hi⟩=>?_) fun hno h' es' ep' t' sb hA' hp hl' hpl'=>?_
 ·have hz : z ∈ xs:=(hS.mem z).mp (List.mem_map.mpr ⟨e,he,(YN (hS.txts e he)).mp hi⟩)
  have e0 : s = { s with heap:=s.heap }:=by cases s; rfl
  rw [e0]
  refine q false s.heap es (Heap.SameBut.refl _ _) ⟨⟨ep,t,hA,hl,hpl⟩,hS.txts,hS.nd,fun y=>?_,by rw [List.length_append]; omega⟩
  rw [hS.mem y,List.mem_append,List.mem_singleton]
  exact ⟨.inl,fun h=>h.elim id fun e=>e ▸ hz⟩
 ·have hz : z ∉ es.toList.map kz:=fun hm=>by
   obtain ⟨e,he,ek⟩:=List.mem_map.mp hm
   have:=hno e he
   rw [show (strKind prog w).is z e.2 = true from (YN (hS.txts e he)).mpr ek] at this
   cases this
  have hpk : (es'.toList.map kz).Perm (es.toList.map kz++[z]):=by
   have:=hp.map kz
   rw [List.map_append] at this
   exact this
  refine q true h' es' sb ⟨⟨ep',t',hA',hl'.trans hl,.inl (hpl' rfl)⟩,fun e he=>?_,?_,fun y=>?_,?_⟩
  ·rcases List.mem_append.mp (hp.mem_iff.mp he) with he | he
   ·exact hS.txts e he
   ·rw [List.mem_singleton.mp he]; exact ⟨z,tk,rfl⟩
  ·rw [hpk.nodup_iff,List.nodup_append]
   exact ⟨hS.nd,by simp,fun x hx y hy=>by rw [List.mem_singleton.mp hy]; exact fun e=>hz (e ▸ hx)⟩
  ·rw [hpk.mem_iff,List.mem_append,List.mem_append,List.mem_singleton,hS.mem y]
  ·rw [<- Array.length_toList,hp.length_eq,List.length_append,Array.length_toList,List.length_append]
   simp only [List.length_singleton]
   omega
theorem tH {h h' : Heap} {a : Addr} {xs : List Str} {es : Array (Int × Value)} (x : StrsSet prog w h a xs es) (k : ∀ o,h.get? a = some o->h'.get? a = some o) : StrsSet prog w h' a xs es:=
 ⟨let ⟨ep,t,hA,r⟩:=x.ex; ⟨ep,t,hA.at k,r⟩,x.txts,x.nd,x.mem,x.len⟩
theorem ZS {R : Result->Shared->Prop} (S I l : Addr) (hSI : S ≠ I) (hSl : S ≠ l) (hlI : l ≠ I) (hh : A.handled = none) {items : Array Value} {zs : List Str} (hz : ∀ (i : Nat) v,items[i]? = some v->∃ z tk,zs[i]? = some z /\ v = .str z tk) (hzl : zs.length = items.size) (hb : items.size + 1 < 4096) :
  ∀ (k i : Nat) (s : Shared) (es : Array (Int × Value)),items.size - i = k->i <= items.size->s.heap.IsListIter I l i->s.heap.IsList l items->StrsSet prog w s.heap S (zs.take i) es->
   (∀ h' tk es',(∀ b o,b ≠ S->b ≠ I->s.heap.get? b = some o->h'.get? b = some o)->StrsSet prog w h' S zs es'->R (.ok (.ret .none)) { s with heap:=h',toks:=tk })->
   codeAny (model prog w) A (.builtin "set.update.loop" ⟨[.ref S,.ref I],[]⟩) R s:=by
 intro k
 induction k with
 | zero=>
  intro i s es hk hi hit hl hS hR
  have hin : i = items.size:=by omega
  subst hin
  refine codeAny_builtin PyProof.Rows.F.entry_set_update_loop ?_
  rw [Around.under_plainId PyProof.Rows.F.plain_set_update_loop _]
  show wpAny _ A.in1 (pyNext (.ref I) >>= _) _ _ s
  refine wpAny_bind (wpAny_pyNext_list_end hh hit hl (by simp) fun h' he=>?_)
  show wpAny _ A.in1 (ret Value.none) _ _ _
  exact wpAny_pure (hR h' s.toks es (fun b o _ hb e=>he b o hb e) (by rw [<- hzl,List.take_length] at hS; exact tH hS fun o e=>he S o hSI e))
 | succ k ih=>
  intro i s es hk hi hit hl hS hR
  have hlt : i < items.size:=by omega
  obtain ⟨z,tk,hzi,hv⟩:=hz i items[i] (Array.getElem?_eq_getElem hlt)
  refine codeAny_builtin PyProof.Rows.F.entry_set_update_loop ?_
  rw [Around.under_plainId PyProof.Rows.F.plain_set_update_loop _]
  show wpAny _ A.in1 (pyNext (.ref I) >>= _) _ _ s
  refine wpAny_bind (wpAny_pyNext_list_item hit hl (Array.getElem?_eq_getElem hlt) fun h' hit' sb=>?_)
  rw [hv]
  show wpAny _ A.in1 (holding [Value.str z tk] (setAdd S (.str z tk)) >>= _) _ _ _
  refine wpAny_bind (wpAny_holding ?_)
  unfold setAdd
  refine wpAny_holding ?_
  refine wpAny_bind ((strKind prog w).pyHash (k:=z) (by show Value.isStrOf z (.str z tk) = true; simp [Value.isStrOf]) ?_)
  have hS' : StrsSet prog w h' S (zs.take i) es:=tH hS fun o e=>(sb.2 S hSI).trans e
  refine UV (s:={ s with heap:=h',toks:=_ }) hS' (by rw [List.length_take]; omega) fun b h2 es2 sb2 hS2=>?_
  have e2 : zs.take i++[z] = zs.take (i + 1):=by rw [List.take_add_one,hzi]; rfl
  rw [e2] at hS2
  refine wpAny_pure ⟨plainId_quiet PyProof.Rows.F.plain_set_update_loop _,ih (i + 1) _ es2 (by omega) hlt ?_ ?_ hS2 fun h3 tk3 es3 k3 hS3=>?_⟩
  ·obtain ⟨o,e,r⟩:=hit'
   exact ⟨o,(sb2.2 I (Ne.symm hSI)).trans e,r⟩
  ·obtain ⟨o,e,r⟩:=hl
   exact ⟨o,(sb2.2 l (Ne.symm hSl)).trans ((sb.2 l hlI).trans e),r⟩
  ·exact hR h3 tk3 es3 (fun b o hb1 hb2 e=>k3 b o hb1 hb2 ((sb2.2 b hb1).trans ((sb.2 b hb2).trans e))) hS3
end
section
variable {prog : Program} {w : World} {A : Around} {E : Value->Shared->Prop} {s : Shared}
theorem jf {l : Addr} {items : Array Value} {zs : List Str} {Q : Value->Shared->Prop} (hh : A.handled = none) (hl : s.heap.IsList l items) (hz : ∀ (i : Nat) v,items[i]? = some v->∃ z tk,zs[i]? = some z /\ v = .str z tk) (hzl : zs.length = items.size) (hb : items.size + 1 < 4096)
  (h : ∀ (h' : Heap) (tk : Nat) es,StrsSet prog w h' s.heap.objs.size zs es->(∀ b o,b < s.heap.objs.size->s.heap.get? b = some o->h'.get? b = some o)->Q (.ref s.heap.objs.size) { s with heap:=h',toks:=tk }) :
  wpAny (model prog w) A (call (.type "set") [.ref l]) Q E s:=by
 obtain ⟨c,tl,hmro⟩:=F.called_set.mro
 have hmade:=F.called_set.made
 have hsub:=F.called_set.sub
 refine wpAny_call (codeAny_of_tree ?_)
 show wpAny _ _ (callAny (.type "set") _) _ _ _
 refine wpAny_pure ⟨Code.quiet_builtin _ (by decide +kernel),codeAny_builtin F.entry_type_call ?_⟩
 rw [Around.under_plain (weight_type_call_type "set" [.ref l] []) rfl]
 have h1:=F.called_set.notType
 have h2:=F.called_set.canCreate
 have hct:=F.typeCall_set_1 (.ref l)
 repeat (any_goals (first | assumption | wp_step))
 have hnew : codeAny (model prog w) A.in1 (.call (.builtin "set.__new__") ⟨[.type "set",.ref l],[]⟩) (wants (fun obj s₁=>obj = .ref s.heap.objs.size /\ s₁ = { s with heap:=s.heap.push { cls:=.type "set",dict:=none,data:=.set #[] 0 (.fresh 0 0 (!w.params.followText "set-order")) } }) E) s:=by
  refine codeAny_of_tree ?_
  show wpAny _ _ (do checkBuiltinCall "set.__new__" ⟨[.type "set",.ref l],[]⟩; again (.builtin "set.__new__" ⟨[.type "set",.ref l],[]⟩)) _ _ s
  refine wpAny_bind (wpAny_of_eq (F.newCall_set_1 (.ref l)) (wpAny_pure ⟨plainId_quiet F.plain_set_new _,codeAny_builtin F.entry_set_new ?_⟩))
  rw [Around.under_plainId F.plain_set_new _]
  unfold Builtin.«set.__new__» Builtin.Frozenset.newClass
  have hsub:=sub_set_self
  obtain ⟨hp,g,d,tk,os⟩:=s
  dsimp only
  wp_walk
  refine wpAny_askSetting (wpAny_pure ?_)
  dsimp only
  simp only [newObj]
  refine wpAny_bind (wpAny_alloc (wpAny_pure ?_))
  exact wpAny_pure ⟨rfl,rfl⟩
 refine codeAny_mono hnew fun r s₁ hr=>?_
 cases r with
 | error e=>exact hr
 | ok fl=>
  cases fl with
  | ret obj=>
   obtain ⟨rfl,rfl⟩:=hr
   generalize hled : (!w.params.followText "set-order") = led at *
   have hS : (s.heap.push { cls:=.type "set",dict:=none,data:=.set #[] 0 (.fresh 0 0 led) }).get? s.heap.objs.size = some { cls:=.type "set",dict:=none,data:=.set #[] 0 (.fresh 0 0 led) }:=Heap.get?_push_size _ rfl
   have hT : Shared.TypeIs { s with heap:=s.heap.push { cls:=.type "set",dict:=none,data:=.set #[] 0 (.fresh 0 0 led) } } (.ref s.heap.objs.size) "set":=⟨_,hS,rfl⟩
   have hli:=F.called_set.init.lookup
   have hbi:=F.called_set.init.bind (.ref s.heap.objs.size)
   repeat (any_goals (first | assumption | wp_step))
   refine codeAny_mono (codeAny_call_builtin (R:=wants (fun r s₂=>r = .none /\ ∃ h' tk es,s₂ = { s with heap:=h',toks:=tk } /\ StrsSet prog w h' s.heap.objs.size zs es /\
     (∀ b o,b < s.heap.objs.size->s.heap.get? b = some o->h'.get? b = some o)) E) F.called_set.init.plain F.entry_set_init (check_set_init_1 hT ?_)) fun r₂ s₂ hr₂=>?_
   ·obtain ⟨ol,hol,hcl,nl,hdl⟩:=hl
    obtain ⟨ocls,odict,odata,oslots⟩:=ol
    simp only at hcl hdl
    subst hcl; subst hdl
    have hol' : (s.heap.push { cls:=.type "set",dict:=none,data:=.set #[] 0 (.fresh 0 0 led) }).get? l = some { cls:=.type "list",dict:=odict,data:=.seq items nl,slots:=oslots }:=Heap.get?_push_of_some _ hol
    have hsls:=F.sub_list_set
    have hslf:=F.sub_list_frozenset
    have hne : (Value.type "list" == Value.type "dict") = false:=by decide
    have hl1 : (s.heap.push { cls:=.type "set",dict:=none,data:=.set #[] 0 (.fresh 0 0 led) }).IsList l items:=⟨_,hol',rfl,nl,rfl⟩
    unfold Builtin.«set.__init__» noKeywords Builtin.Frozenset.updateFrom
    generalize hPI : pyIter = PI
    wp_walk
    subst hPI
    refine wpAny_pyIter_list hl1 ?_
    refine wpAny_bind (wpAny_runValue ?_)
    have hlS : l < s.heap.objs.size:=Heap.lt_size hol
    have hlI : l ≠ (s.heap.push { cls:=.type "set",dict:=none,data:=.set #[] 0 (.fresh 0 0 led) }).objs.size:=by
     rw [Heap.size_push]; exact Nat.ne_of_lt (Nat.lt_succ_of_lt hlS)
    have hSI : s.heap.objs.size ≠ (s.heap.push { cls:=.type "set",dict:=none,data:=.set #[] 0 (.fresh 0 0 led) }).objs.size:=by
     rw [Heap.size_push]; exact Nat.ne_of_lt (Nat.lt_succ_self _)
    refine ZS (es:=#[]) s.heap.objs.size _ l hSI (Nat.ne_of_gt hlS) hlI (by simp [hh]) hz hzl hb items.size 0 _ (by omega) (Nat.zero_le _) ⟨_,Heap.get?_push_size _ rfl,rfl,rfl⟩ (hl1.push _) ?hS0 ?hR
    case hS0=>
     refine ⟨⟨0,_,⟨_,Heap.get?_push_of_some _ hS,⟨rfl,rfl,rfl⟩,rfl,fun e he=>by simp at he,rfl⟩,hled.symm,.inr rfl⟩,fun e he=>by simp at he,by simp,fun z=>by simp,by simp⟩
    case hR=>
     intro h' tk' es' hk hS'
     refine wpAny_pure ?_
     show wpAny _ _ (ret Value.none) _ _ _
     refine wpAny_pure ⟨rfl,h',tk',es',rfl,hS',fun b o hb' e=>?_⟩
     refine hk b o (Nat.ne_of_lt hb') (fun z=>?_) (Heap.get?_push_of_some _ (Heap.get?_push_of_some _ e))
     rw [z,Heap.size_push] at hb'
     exact absurd hb' (Nat.not_lt.mpr (Nat.le_succ _))
   ·cases r₂ with
    | error e=>exact hr₂
    | ok fl₂=>
     cases fl₂ with
     | ret r=>
      obtain ⟨rfl,h',tk,es',rfl,hS',hk'⟩:=hr₂
      repeat (any_goals (first | assumption | wp_step))
      exact h _ _ _ hS' hk'
     | _=>exact hr₂.elim
  | _=>exact hr.elim
end
open PySem PyProof.Rows
section
variable {prog : Program} {w : World} {A : Around} {E : Value->Shared->Prop} {s : Shared}
theorem vQ {v : Value} {Q : Value->Shared->Prop} (h : wpAny (model prog w) A.in1 (collect v) (fun vs s1=>vs.length < 64 /\ ∃ ss,StrsAre vs ss /\
   ∀ (h' : Heap) (out : List Value) (ss' : List Str) (n : Nat),(∀ b o,s1.heap.get? b = some o->h'.get? b = some o)->h'.get? s1.heap.objs.size = some (seqObj "list" out.toArray n)->StrsAre out ss'->ss'.Perm ss->sortedS ss' = true->Q (.ref s1.heap.objs.size) { s1 with heap:=h' }) E s) :
  wpAny (model prog w) A (call (.builtin "sorted") [v]) Q E s:=by
 refine Calls.call_function_entry kind_sorted plain_sorted entry_sorted (args_sorted1 _) ?_
 unfold Builtin.«sorted»
 refine wpAny_bind (m:=checkCount "sorted" 1 1 _) (wpAny_pure ?_)
 refine wpAny_bind (wpAny_mono h (fun vs s1 hv=>?_) fun _ _ e=>e)
 obtain ⟨h64,ss,hS,q⟩:=hv
 refine wpAny_bind (wpAny_newList ?_ (by rw [sizeLine_eq]; omega))
 have hoL : (s1.heap.push (seqObj "list" vs.toArray 0)).get? s1.heap.objs.size = some (seqObj "list" vs.toArray 0):=Heap.get?_push_size _ rfl
 refine wpAny_bind (wpAny_holding (wpAny_call_entry slot_list_sort ⟨_,hoL,rfl⟩ entry_list_sort (list_sort_treeK strKind_oneLt hoL hS.keysOf (fun v₁ v₂ rest e=>keyKind_strs (by rw [<- e]; exact hS)) h64 fun st' a1 a2=>⟨_,rfl,?_⟩) (args_list_sort _)))
 obtain ⟨ss',h1,h2,h3⟩:=sorted_out_str hS a1 a2
 obtain ⟨n,hn⟩:=sortedHeap_at (out:=(arrOf st').map (·.2)) hoL
 refine wpAny_pure ⟨_,rfl,?_⟩
 have e : ((arrOf st').map (·.2)).toList.toArray = (arrOf st').map (·.2):=Array.toArray_toList
 refine q _ ((arrOf st').map (·.2)).toList ss' n (fun b o eb=>?_) (by rw [e]; exact hn) h1 h2 h3
 have hlt:=Heap.lt_size eb
 rw [sortedHeap_old (Nat.ne_of_lt hlt) (by rw [size_push']; exact Nat.lt_succ_of_lt hlt)]
 exact Heap.get?_push_of_some _ eb
theorem StrsAre.perm {vs : List Value} {es : List (Int × Value)} (h : ∀ e ∈ es,∃ z tk,e.2 = Value.str z tk) (p : vs.Perm (es.map (·.2))) : StrsAre vs (vs.map strOf) /\ (vs.map strOf).Perm (es.map kz):=by
 refine ⟨strsAre_map vs fun v hv=>?_,?_⟩
 ·obtain ⟨e,he,rfl⟩:=List.mem_map.mp (p.mem_iff.mp hv)
  exact h e he
 ·have:=p.map strOf
  rw [List.map_map] at this
  have e : es.map (strOf ∘ fun x=>x.2) = es.map kz:=List.map_congr_left fun x hx=>by
   obtain ⟨z,tk,e1⟩:=h x hx
   show strOf x.2 = kz x
   unfold kz; rw [e1]; rfl
  rw [e] at this
  exact this
theorem jg {a : Addr} {xs : List Str} {es : Array (Int × Value)} {Q : Value->Shared->Prop} (hh : A.handled = none) (hS : StrsSet prog w s.heap a xs es) (h64 : xs.length < 64)
  (h : ∀ (h' : Heap) (d : Drawn) (p : Addr) (out : List Value) (ys : List Str) (n : Nat),s.heap.objs.size <= p->(∀ b o,s.heap.get? b = some o->h'.get? b = some o)->h'.get? p = some (seqObj "list" out.toArray n)->StrsAre out ys->ys.Nodup->(∀ z,z ∈ ys ↔ z ∈ xs)->sortedS ys = true->Q (.ref p) { s with heap:=h',drawn:=d }) :
  wpAny (model prog w) A (call (.builtin "sorted") [.ref a]) Q E s:=by
 obtain ⟨ep,t,hA,hl,hp⟩:=hS.ex
 have hlen:=hS.len
 refine vQ (ZR (A:=A.in1) hh hA ?_ (by omega) fun vs h1 d hpm keep hge=>?_)
 ·unfold je
  cases hb : w.params.followText "set-order" with
  | true=>exact .inl rfl
  | false=>rw [hb] at hl; exact .inr ⟨hl,hp⟩
 ·obtain ⟨s1,p1⟩:=StrsAre.perm hS.txts hpm
  refine ⟨by rw [hpm.length_eq]; simp; omega,_,s1,fun h' out ss' n k2 ho so po so2=>?_⟩
  have p2 : ss'.Perm (es.toList.map kz):=po.trans p1
  exact h h' d _ out ss' n hge (fun b o e=>k2 b o (keep b o e)) ho so (p2.nodup_iff.mpr hS.nd) (fun z=>by rw [p2.mem_iff,hS.mem z]) so2
end
def XA (z : Str) : List Str->List Str
 | []=>[z]
 | y::ys=>if z = y then y::ys else if sLt z y = true then z::y::ys else y::XA z ys
def wj : List Str->List Str
 | []=>[]
 | z::zs=>XA z (wj zs)
theorem jh {z x : Str} : ∀ {ys : List Str},x ∈ XA z ys ↔ x = z \/ x ∈ ys
 | []=>by simp [XA]
 | y::ys=>by
  unfold XA
  split
  ·rename_i e; subst e; simp
  ·split
   ·simp
   ·rw [List.mem_cons,jh,List.mem_cons]
    constructor
    ·rintro (h | h | h)
     ·exact .inr (.inl h)
     ·exact .inl h
     ·exact .inr (.inr h)
    ·rintro (h | h | h)
     ·exact .inr (.inl h)
     ·exact .inl h
     ·exact .inr (.inr h)
theorem YO {z : Str} : ∀ {ys : List Str},ys.Pairwise (fun a b=>sLt a b = true)->(XA z ys).Pairwise (fun a b=>sLt a b = true)
 | [],_=>by simp [XA]
 | y::ys,h=>by
  have h':=List.pairwise_cons.mp h
  unfold XA
  split
  ·exact h
  ·rename_i ne
   split
   ·rename_i lt
    refine List.pairwise_cons.mpr ⟨fun x hx=>?_,h⟩
    rcases List.mem_cons.mp hx with rfl | hx
    ·exact lt
    ·exact wS.tr _ _ _ lt (h'.1 x hx)
   ·rename_i nlt
    refine List.pairwise_cons.mpr ⟨fun x hx=>?_,YO h'.2⟩
    rcases jh.mp hx with rfl | hx
    ·exact wS.ne (by simpa using nlt) ne
    ·exact h'.1 x hx
theorem tI : ∀ zs : List Str,(wj zs).Pairwise (fun a b=>sLt a b = true)
 | []=>List.Pairwise.nil
 | z::zs=>YO (tI zs)
theorem vm {x : Str} : ∀ {zs : List Str},x ∈ wj zs ↔ x ∈ zs
 | []=>Iff.rfl
 | z::zs=>by show x ∈ XA z (wj zs) ↔ _; rw [jh,vm,List.mem_cons]
theorem YQ {z : Str} : ∀ {ys : List Str},(XA z ys).length <= ys.length + 1
 | []=>by simp [XA]
 | y::ys=>by
  have:=YQ (z:=z) (ys:=ys)
  unfold XA
  split
  ·simp
  ·split
   ·simp
   ·simp only [List.length_cons]; omega
theorem tJ : ∀ {zs : List Str},(wj zs).length <= zs.length
 | []=>Nat.le_refl _
 | z::zs=>by
  have h1:=YQ (z:=z) (ys:=wj zs)
  have h2:=tJ (zs:=zs)
  show (XA z (wj zs)).length <= _
  simp only [List.length_cons]; omega
theorem tK {ys : List Str} (h : ys.Pairwise (fun a b=>sLt a b = true)) : ys.Nodup:=h.imp fun {a b} e z=>by rw [z,wS.irr] at e; cases e
theorem TV {ys : List Str} (h : ys.Pairwise (fun a b=>sLt a b = true)) : ys.Pairwise (fun a b=>sLt b a = false):=h.imp fun {a b} e=>wS.asy e
theorem Jg {xs ys : List Str} (h1 : xs.Pairwise (fun a b=>sLt a b = true)) (h2 : ys.Pairwise (fun a b=>sLt a b = true)) (m : ∀ z,z ∈ xs ↔ z ∈ ys) : xs = ys:=
 vj wS ((List.perm_ext_iff_of_nodup (tK h1) (tK h2)).mpr m) (TV h1) (TV h2)
theorem UW {zs ys : List Str} (hn : ys.Nodup) (hm : ∀ z,z ∈ ys ↔ z ∈ zs) (ho : ys.Pairwise (fun a b=>sLt b a = false)) : ys = wj zs:=by
 refine Jg ?_ (tI zs) fun z=>by rw [hm,vm]
 exact List.Pairwise.imp₂ (fun a b e n=>wS.ne e (Ne.symm n)) ho hn
@[simp] def wy (f : FE) : FR:=fun δ=>(f δ).bind fun d=>match d with | .lst ds=>(xF ds).bind fun zs=>if zs.length < 64 then some (.fr (.lst ((wj zs).map .str))) else none | _=>none
open PySem PySem.Spec PyProof.Rows
def zcJ (prog : Program) (w : World) (a : Addr) (zs : List Str) : Heap->Prop:=fun h=>∃ es,StrsSet prog w h a zs es
theorem Vf {zs : List Str} {its : List Value} : yn (zs.map V.str) its->∀ (i : Nat) (v : Value),its.toArray[i]? = some v->∃ z tk,zs[i]? = some z /\ v = .str z tk:=fun h i v e=>by
 have e' : its[i]? = some v:=by simpa using e
 have hl:=h.length
 have hi : i < zs.length:=by have:=(List.getElem?_eq_some_iff.mp e').1; simp at hl; omega
 have e1 : (zs.map V.str)[i]? = some (V.str zs[i]):=by simp [hi]
 obtain ⟨u,e2,r⟩:=h.get e1
 rw [e'] at e2
 cases e2
 obtain ⟨t,rfl⟩:=r
 exact ⟨zs[i],t,List.getElem?_eq_getElem hi,rfl⟩
theorem uc : ∀ {out : List Value} {ys : List Str},StrsAre out ys->yn (ys.map V.str) out
 | _,_,.nil=>.nil
 | _,_,.cons x t h=>.cons ⟨t,rfl⟩ (uc h)
theorem qq : ∀ (p : Str) (r : List Str),risingS p r = true->(p::r).Pairwise (fun a b=>sLt b a = false)
 | p,[],_=>by simp
 | p,x::r,h=>by
  unfold risingS at h
  rw [Bool.and_eq_true,Bool.not_eq_true',ltCps_eq] at h
  have h1 : sLt x p = false:=h.1
  have ih:=qq x r h.2
  refine List.pairwise_cons.mpr ⟨fun y hy=>?_,ih⟩
  rcases List.mem_cons.mp hy with rfl | hy
  ·exact h1
  ·exact wS.ngt ((List.pairwise_cons.mp ih).1 y hy) h1
theorem ZT {ys : List Str} (h : sortedS ys = true) : ys.Pairwise (fun a b=>sLt b a = false):=by
 cases ys with
 | nil=>exact List.Pairwise.nil
 | cons x r=>exact qq x r h
section
variable {X : Cx} {pins : List (Addr × Obj)} {σ : St} {H : Hp} {s : Shared}
theorem Inv.drew {h' : Heap} {t' : Nat} {d' : Drawn} {H' : Hp} (I : Inv X pins σ H' { s with heap:=h',toks:=t' }) : Inv X pins σ H' { s with heap:=h',toks:=t',drawn:=d' }:=
 ⟨I.ok,I.os,I.bare,I.base,I.loc,I.cell,I.free,I.freeC,I.pin,I.hok,I.len⟩
theorem Vg (hc : X.calm = true) : xp X (.type "set") (fun xs H Q=>∃ l zs,xs = [.ref l] /\ SqL X.K H l (zs.map V.str) /\ zs.length < 4000 /\ ∀ p,H p = none->Q (.ref p) (upd H p (.ext (zcJ X.prog X.w p zs)))):=by
 intro pins s σ H xs us Q I r h
 obtain ⟨l,zs,rfl,hq,hz,q⟩:=h
 obtain ⟨u,rfl,rx⟩:=uA r
 cases rx
 obtain ⟨its,rv,pl,_⟩:=I.list hq
 have hlen : zs.length = its.length:=by have:=rv.length; simpa using this
 refine jf (I.ok.hd hc) pl.isList (Vf rv) (by simpa using hlen) (by rw [List.size_toArray]; omega) fun h' tk es hS keep=>?_
 have hn : H s.heap.objs.size = none:=I.hok.fresh (Nat.le_refl _)
 refine ⟨.ref _,_,I.laid (t':=tk) (h':=h') (fun b o e=>keep b o (Heap.lt_size e) e) (Nat.le_refl _) ?_,rfl,q _ hn⟩
 obtain ⟨ep,t,⟨o,ho,_⟩,_⟩:=hS.ex
 exact ⟨⟨es,hS⟩,⟨o,ho⟩,fun h1 h2 ⟨es',S'⟩ k=>⟨es',tH S' k⟩⟩
theorem kL (hc : X.calm = true) : xp X (.builtin "sorted") (fun xs H Q=>∃ a zs,xs = [.ref a] /\ H a = some (.ext (zcJ X.prog X.w a zs)) /\ zs.length < 64 /\ ∀ p,H p = none->Q (.ref p) (upd H p (.lst ((wj zs).map V.str)))):=by
 intro pins s σ H xs us Q I r h
 obtain ⟨a,zs,rfl,hq,hz,q⟩:=h
 obtain ⟨u,rfl,rx⟩:=uA r
 cases rx
 obtain ⟨⟨es,hS⟩,_⟩:=I.hok a _ hq
 refine jg (I.ok.hd hc) hS hz fun h' d p out ys n hp keep ho so nd mem ord=>?_
 have hn : H p = none:=I.hok.fresh hp
 have e : ys = wj zs:=UW nd mem (ZT ord)
 subst e
 refine ⟨.ref p,_,Inv.drew (I.laid (t':=s.toks) (h':=h') keep hp ?_),rfl,q _ hn⟩
 have hl : ((wj zs).map V.str).length <= sizeLine:=by
  have h1:=tJ (zs:=zs)
  rw [List.length_map,sizeLine_eq]; omega
 exact ⟨hl,out,n,uc so,ho⟩
theorem kM : ∀ {ds : List D} {zs : List Str},xF ds = some zs->ds = zs.map .str
 | [],zs,h=>by cases h; rfl
 | d::ds,zs,h=>by
  cases d with
  | str z=>
   simp only [xF] at h
   obtain ⟨ys,e1,rfl⟩:=omE h
   rw [kM e1]; rfl
  | _=>cases h
theorem qr {K : PySem.W.Frag} {G : Hp} : ∀ {zs : List Str} {vs : List V},RepL K G (zs.map .str) vs->vs = zs.map V.str
 | [],vs,h=>by simp only [List.map_nil,RepL] at h; subst h; rfl
 | z::zs,vs,h=>by
  simp only [List.map_cons,RepL,Rep] at h
  obtain ⟨v,r,rfl,rfl,h3⟩:=h
  rw [qr h3]; rfl
section
variable {X : Cx} {e : Expr} {f : FE} {p1 p2 q1 q2 : Pos}
theorem qt (hc : X.calm = true) (hm1 : X.mg "sorted" = none) (hm2 : X.mg "set" = none) (he : PB X e f) (hg1 : Gl X "sorted":=by rfl) (hg2 : Gl X "set":=by rfl)
  (h1 : starEach [.Call (.Name "set" q1) [e] [] q2] X.env = (false,eval (.Call (.Name "set" q1) [e] [] q2) X.env)::starEach [] X.env:=by rfl) (h2 : starEach [e] X.env = (false,eval e X.env)::starEach [] X.env:=by rfl) :
  PR X (.Call (.Name "sorted" p1) [.Call (.Name "set" q1) [e] [] q2] [] p2) (wy f):=by
 obtain ⟨te,pe,ke⟩:=he
 refine ⟨_,qP (kL hc) hg1 hm1 boot_sorted (ya (uU (Vg hc) hg2 hm2 boot_set (ya pe yJ h2) (by decide) (by decide) h2) yJ h1) (by decide) (by decide) h1,fun B G H δ σ r Q sG rs ef k=>?_⟩
 unfold wy at ef
 obtain ⟨d,e1,ef⟩:=obE ef
 cases d with
 | lst ds=>
  dsimp only at ef
  obtain ⟨zs,e2,ef⟩:=obE ef
  split at ef
  ·rename_i hz
   cases ef
   obtain rfl:=kM e2
   refine ke B G H δ σ (.lst (zs.map .str)) _ sG rs e1 fun v G1 H1 g1 rb=>?_
   obtain ⟨a,vs,rfl,hq,rl⟩:=rb.lst g1.s
   obtain rfl:=qr rl
   refine ⟨a,zs,rfl,hq,by omega,fun p hp=>?_⟩
   refine ⟨p,zs,rfl,yh,hz,fun p2 hp2=>?_⟩
   have hne : p2 ≠ p:=fun z=>by rw [z,yh] at hp2; cases hp2
   have g2 : Grow G H G1 (upd H1 p (.ext (zcJ X.prog X.w p zs))):=⟨g1.g,fun b u e=>by rw [zR (zY (g1.h _ _ e) hp)]; exact g1.h _ _ e,fun b u e=>by rw [zR (zY (g1.s _ _ e) hp)]; exact g1.s _ _ e,g1.n⟩
   exact k p2 ((wj zs).map V.str) G1 _ g2 hp2 trivial (wf _)
  ·cases ef
 | _=>cases ef
end
end
section
variable {X : Cx}
end
section
variable {X : Cx}
end
section
variable {X : Cx} {e : Expr} {es : List Expr} {pos p : Pos}
end
section
variable {δ : En} {i : Nat} {f : FE} {N : En->Prop} {T : Rs->En->Prop}
end
section
variable {X : Cx}
end
section
variable {δ : En} {i j : Nat} {g : En->Option (List D)} {F : FS} {N : En->Prop} {T : Rs->En->Prop}
end
section
variable {prog : Program} {w : World} {A : Around} {E : Value->Shared->Prop} {s : Shared}
end
section
variable {X : Cx}
end
section
variable {X : Cx} {e0 : Expr} {np cpos pos : Pos} {c attr q par : Str} {st : Stmt} {g : FE}
end
section
variable {K : PySem.W.Frag} {c attr q : Str} {C f : Addr} {st : Stmt} {od : Option Addr} {kV doc pm cdv ct : Value} {an : Option Addr} {osl : Array (Option Value)}
end
section
variable {X : Cx}
def rStarts : V->List V->Hp->VK->Prop:=fun x vs H Q=>∃ a b,x = .str a /\ vs = [.str b] /\ Q (.bl (Txt.startswith a b)) H
theorem Vh : MtR X "str.startswith" rStarts:=by
 intro pins s σ H x vs v us Q I rx rv h
 obtain ⟨a,b,rfl,rfl,q⟩:=h
 obtain ⟨t,rfl⟩:=rx
 obtain ⟨u,rfl,ru⟩:=rv.one
 obtain ⟨t',rfl⟩:=ru
 exact SC.startswith ⟨.bl _,H,I,rfl,q⟩
def ji : D->D->Option D
 | .str x,.str y=>some (.bl (Txt.startswith x y))
 | _,_=>none
theorem Vi {o a : Expr} {fo fa : FE} {p1 p2 : Pos} (ho : PD X o fo) (ha : PD X a fa)
  (hb : ∀ {to ta : TE},PE X o to->PE X a ta->PE X (.Call (.Attribute o "startswith" p1) [a] [] p2) (tBM X.K "str" rStarts to (qO ta tNil)):=by
   intro to ta hx ht; exact jV PySem.F.plainAttrs_str PySem.F.slot_str_startswith PySem.F.type_str_startswith Vh hx (ya ht yJ)) :
  PD X (.Call (.Attribute o "startswith" p1) [a] [] p2) (f2 ji fo fa):=by
 obtain ⟨t1,q1,k1⟩:=ho
 obtain ⟨t2,q2,k2⟩:=ha
 refine ⟨_,hb q1 q2,fun B G H δ σ d Q sG rs ef k=>?_⟩
 unfold f2 at ef
 obtain ⟨x,e1,ef⟩:=obE ef
 obtain ⟨y,e2,ef⟩:=obE ef
 unfold ji at ef
 split at ef
 ·cases ef
  refine k1 B G H δ σ _ _ sG rs e1 fun v G1 H1 g1 r1=>?_
  simp only [Rep] at r1
  subst r1
  refine ⟨rfl,k2 B G1 H1 δ σ _ _ g1.s (rs.grow g1) e2 fun u G2 H2 g2 r2=>?_⟩
  simp only [Rep] at r2
  subst r2
  exact ⟨_,_,rfl,rfl,k _ G2 H2 (g1.trans g2) (by simp [Rep])⟩
 ·cases ef
theorem tL : ∀ (l : List (Str × Tok)),yn ((l.map (·.1)).map V.str) (strValues l)
 | []=>.nil
 | p::l=>.cons ⟨p.2,rfl⟩ (tL l)
def vR (a b : Str) : Prop:=(b.length == 0) = false /\ a.length <= sizeLine /\ (Builtin.Str.partsBetween a (Builtin.Str.occurrences a b 0 a.length (a.length + 1)) b.length).length <= sizeLine
instance (a b : Str) : Decidable (vR a b):=inferInstanceAs (Decidable (_ /\ _ /\ _))
theorem Vj {a b : Str} (h : vR a b) : (Txt.split a b).length <= sizeLine:=by
 unfold Txt.split
 split
 ·show 1 <= sizeLine; decide
 ·split
  ·show 1 <= sizeLine; decide
  ·exact h.2.2
def rSplit : V->List V->Hp->VK->Prop:=fun x vs H Q=>∃ a b,x = .str a /\ vs = [.str b] /\ vR a b /\ ∀ p,H p = none->Q (.ref p) (upd H p (.lst ((Txt.split a b).map V.str)))
theorem UX : MtR X "str.split" rSplit:=by
 intro pins s σ H x vs v us Q I rx rv h
 obtain ⟨a,b,rfl,rfl,ok,q⟩:=h
 obtain ⟨t,rfl⟩:=rx
 obtain ⟨u,rfl,ru⟩:=rv.one
 obtain ⟨t',rfl⟩:=ru
 have fin : ∀ (l : List (Str × Tok)) (k : Nat),l.map (·.1) = Txt.split a b->EP X pins σ Q (.ref s.heap.objs.size) { s with toks:=k,heap:=s.heap.push { cls:=.type "list",data:=.seq (strValues l).toArray } }:=fun l k e=>by
  refine ⟨.ref s.heap.objs.size,upd H s.heap.objs.size (.lst ((Txt.split a b).map V.str)),?_,rfl,q _ I.fresh⟩
  rw [<- e]
  exact I.lnew (tL l) (by rw [List.length_map,e]; exact Vj ok)
 cases h1 : (decide (a.length < b.length) || decide (Builtin.Str.strKind a < Builtin.Str.strKind b))
 ·cases hf : (Builtin.Str.occurrences a b 0 a.length (a.length + 1)).isEmpty
  ·refine call_meets F.slot_str_split (typeIs_str _ _ _) F.entry_str_split (F.args_str_split_2 _ _) (meets_str_split_sep a b t t' h1 ok.1 hf ok.2.1 ok.2.2) ?_
   rw [strsFrom_eq]
   exact fin (numbered s.toks _) _ ((numbered_texts _ _).trans ((if_neg (ne_true_of_eq_false h1)).trans (if_neg (ne_true_of_eq_false hf))).symm)
  ·exact call_meets F.slot_str_split (typeIs_str _ _ _) F.entry_str_split (F.args_str_split_2 _ _) (meets_str_split_not_found a b t t' h1 ok.1 hf) (fin [(a,t)] _ ((if_neg (ne_true_of_eq_false h1)).trans (if_pos hf)).symm)
 ·exact call_meets F.slot_str_split (typeIs_str _ _ _) F.entry_str_split (F.args_str_split_2 _ _) (meets_str_split_cannot_occur a b t t' h1) (fin [(a,t)] _ (if_pos h1).symm)
def YR : D->D->Option Rs
 | .str x,.str y=>if vR x y then some (.fr (.lst ((Txt.split x y).map D.str))) else none
 | _,_=>none
@[simp] def ud (f g : FE) : FR:=fun δ=>(f δ).bind fun x=>(g δ).bind fun y=>YR x y
theorem uR {o a : Expr} {fo fa : FE} {p1 p2 : Pos} (ho : PD X o fo) (ha : PD X a fa)
  (hb : ∀ {to ta : TE},PE X o to->PE X a ta->PE X (.Call (.Attribute o "split" p1) [a] [] p2) (tBM X.K "str" rSplit to (qO ta tNil)):=by
   intro to ta hx ht; exact jV PySem.F.plainAttrs_str PySem.F.slot_str_split PySem.F.type_str_split UX hx (ya ht yJ)) :
  PR X (.Call (.Attribute o "split" p1) [a] [] p2) (ud fo fa):=by
 obtain ⟨t1,q1,k1⟩:=ho
 obtain ⟨t2,q2,k2⟩:=ha
 refine ⟨_,hb q1 q2,fun B G H δ σ d Q sG rs ef k=>?_⟩
 unfold ud at ef
 obtain ⟨x,e1,ef⟩:=obE ef
 obtain ⟨y,e2,ef⟩:=obE ef
 unfold YR at ef
 split at ef
 ·split at ef
  ·rename_i ok
   cases ef
   refine k1 B G H δ σ _ _ sG rs e1 fun v G1 H1 g1 r1=>?_
   simp only [Rep] at r1
   subst r1
   refine ⟨rfl,k2 B G1 H1 δ σ _ _ g1.s (rs.grow g1) e2 fun u G2 H2 g2 r2=>?_⟩
   simp only [Rep] at r2
   subst r2
   exact ⟨_,_,rfl,rfl,ok,fun p hp=>k p _ G2 H2 (g1.trans g2) hp True.intro (wf _)⟩
  ·cases ef
 ·cases ef
def t5 (x y : Str) : List Str:=match Builtin.Str.occurrences x y 0 x.length 1 with
 | i::_=>[Builtin.Str.strSub x 0 i,y,Builtin.Str.strSub x (i + y.length) x.length]
 | []=>[x,Str.empty,Str.empty]
theorem Vk {x y : Str} : (t5 x y).length = 3:=by unfold t5; split <;> rfl
def rPart : V->List V->Hp->VK->Prop:=fun x vs H Q=>∃ a b,x = .str a /\ vs = [.str b] /\ (b.length == 0) = false /\ a.length <= sizeLine /\ ∀ p,H p = none->Q (.ref p) (upd H p (.tup ((t5 a b).map V.str)))
theorem Jh : MtR X "str.partition" rPart:=by
 intro pins s σ H x vs v us Q I rx rv h
 obtain ⟨a,b,rfl,rfl,hb,ha,q⟩:=h
 obtain ⟨t,rfl⟩:=rx
 obtain ⟨u,rfl,ru⟩:=rv.one
 obtain ⟨t',rfl⟩:=ru
 have fin : ∀ (l : List (Str × Tok)) (k : Nat),l.map (·.1) = t5 a b->EP X pins σ Q (.ref s.heap.objs.size) { s with toks:=k,heap:=s.heap.push { cls:=.type "tuple",data:=.seq (strValues l).toArray } }:=fun l k e=>by
  refine ⟨.ref s.heap.objs.size,upd H s.heap.objs.size (.tup ((t5 a b).map V.str)),?_,rfl,q _ I.fresh⟩
  rw [<- e]
  refine I.laid (fun b u e=>Heap.get?_push_of_some _ e) (Nat.le_refl _) ?_
  exact ⟨by rw [List.length_map,e,Vk]; decide,strValues l,tL l,⟨_,Heap.get?_push_size _ rfl,rfl,_,rfl⟩⟩
 refine call_meets F.slot_str_partition (typeIs_str _ _ _) F.entry_str_partition (F.args_str_partition_2 _ _) (meets_str_partition a b t t' hb ha) ?_
 unfold t5 at fin
 revert fin
 cases Builtin.Str.occurrences a b 0 a.length 1 with
 | nil=>exact fun fin=>fin [(a,t),(Str.empty,s.toks),(Str.empty,s.toks)] _ rfl
 | cons i r=>exact fun fin=>fin [(Builtin.Str.strSub a 0 i,s.toks),(b,t'),(Builtin.Str.strSub a (i + b.length) a.length,s.toks + 1)] _ rfl
def ZU : D->D->Option D
 | .str x,.str y=>if (y.length == 0) = false /\ x.length <= sizeLine then some (.tup ((t5 x y).map D.str)) else none
 | _,_=>none
theorem Ji {o a : Expr} {fo fa : FE} {p1 p2 : Pos} (ho : PD X o fo) (ha : PD X a fa)
  (hb : ∀ {to ta : TE},PE X o to->PE X a ta->PE X (.Call (.Attribute o "partition" p1) [a] [] p2) (tBM X.K "str" rPart to (qO ta tNil)):=by
   intro to ta hx ht; exact jV PySem.F.plainAttrs_str PySem.F.slot_str_partition PySem.F.type_str_partition Jh hx (ya ht yJ)) :
  PD X (.Call (.Attribute o "partition" p1) [a] [] p2) (f2 ZU fo fa):=by
 obtain ⟨t1,q1,k1⟩:=ho
 obtain ⟨t2,q2,k2⟩:=ha
 refine ⟨_,hb q1 q2,fun B G H δ σ d Q sG rs ef k=>?_⟩
 unfold f2 at ef
 obtain ⟨x,e1,ef⟩:=obE ef
 obtain ⟨y,e2,ef⟩:=obE ef
 unfold ZU at ef
 split at ef
 ·split at ef
  ·rename_i ok
   cases ef
   refine k1 B G H δ σ _ _ sG rs e1 fun v G1 H1 g1 r1=>?_
   simp only [Rep] at r1
   subst r1
   refine ⟨rfl,k2 B G1 H1 δ σ _ _ g1.s (rs.grow g1) e2 fun u G2 H2 g2 r2=>?_⟩
   simp only [Rep] at r2
   subst r2
   exact ⟨_,_,rfl,rfl,ok.1,ok.2,fun p hp=>k _ _ _ ((g1.trans g2).trans (Grow.laid g2.s _ hp)) (vJ (g2.s.free hp) (wf _))⟩
  ·cases ef
 ·cases ef
def rSlS : V->Option Int->Option Int->Hp->VK->Prop:=fun x lo hi H Q=>∃ z,x = .str z /\ z.length <= sizeLine /\ Q (.str (Txt.slice z lo hi)) H
theorem Vl {v : Value} {o : Option Int} (h : IsPart v o) : ∃ l : Option (Int × Tok),v = partValue l /\ l.map (·.1) = o:=by
 cases h with
 | none=>exact ⟨none,rfl,rfl⟩
 | int i t=>exact ⟨some (i,t),rfl,rfl⟩
theorem za8 : SlR X rSlS:=by
 intro pins s σ H x v vl vu lo hi sl Q I rx hs pl pu h
 obtain ⟨z,rfl,hz,q⟩:=h
 obtain ⟨t,rfl⟩:=rx
 obtain ⟨l,rfl,rfl⟩:=Vl pl
 obtain ⟨u,rfl,rfl⟩:=Vl pu
 refine ⟨"str",_,F.slot_str_getitem.lookup,typeIs_str _ _ _,wpAny_getItem_str_slice (l:=l) (u:=u) (st:=none) hs rfl ?_⟩
 refine post_val_or_str ⟨Nat.le_trans (Txt.slice_le z _ _) hz,fun t' k=>?_⟩
 exact ⟨.str _,H,I.tok k,⟨t',rfl⟩,q⟩
@[simp] def Jj (f : FE) (l h : En->Option (Option Int)) : FE:=fun δ=>(f δ).bind fun x=>(l δ).bind fun lo=>(h δ).bind fun hi=>match x with
 | .str z=>if z.length <= sizeLine then some (.str (Txt.slice z lo hi)) else none
 | _=>none
theorem TW {e : Expr} {f : FE} {lo hi : Option Expr} {fl fh : En->Option (Option Int)} {pos p2 : Pos} (he : PB X e f) (hl : POD X lo fl) (hh : POD X hi fh) : PD X (.Subscript e (.Slice lo hi none p2) pos) (Jj f fl fh):=by
 obtain ⟨t,pt,k1⟩:=he
 obtain ⟨tl,pl,kl⟩:=hl
 obtain ⟨th,ph,kh⟩:=hh
 refine ⟨_,Yp za8 pt pl ph,fun B G H δ σ d Q sG rs e k=>?_⟩
 unfold Jj at e
 obtain ⟨x,e1,e⟩:=obE e
 obtain ⟨l,e2,e⟩:=obE e
 obtain ⟨h,e3,e⟩:=obE e
 refine k1 B G H δ σ x _ sG rs e1 fun v G1 H1 g1 r1=>kl B G1 H1 δ σ l _ g1.s (rs.grow g1) e2 fun G2 H2 g2=>kh B G2 H2 δ σ h _ g2.s (rs.grow (g1.trans g2)) e3 fun G3 H3 g3=>?_
 split at e
 ·split at e
  ·rename_i hz
   cases e
   have r1:=r1.flat rfl
   simp only [Rep] at r1
   exact ⟨_,r1,hz,k _ G3 H3 ((g1.trans g2).trans g3) (by simp [Rep])⟩
  ·cases e
 ·cases e
theorem Vm : xp X (.type "int") (fun xs H Q=>∃ x n,xs = [.str x] /\ PySem.intText? x = some n /\ x.length <= 640 /\ Q (.int n) H):=by
 intro pins s σ H xs us Q I r h
 obtain ⟨x,n,rfl,e,hl,q⟩:=h
 obtain ⟨u,rfl,t,rfl⟩:=uA r
 exact PySem.W.KIN.call_text e hl ⟨.int n,H,I.tok _,⟨_,rfl⟩,q⟩
theorem Vn : xp X (.type "str") (fun xs H Q=>(∃ a,xs = [.int a] /\ a.natAbs.log2 < 1920 /\ Q (.str (toString a)) H) \/ ∃ x,xs = [.str x] /\ Q (.str x) H):=by
 intro pins s σ H xs us Q I r h
 rcases h with ⟨a,rfl,ha,q⟩ | ⟨x,rfl,q⟩
 ·obtain ⟨u,rfl,t,rfl⟩:=uA r
  exact P.str_of_int ha ⟨.str _,H,I.tok _,⟨_,rfl⟩,q⟩
 ·obtain ⟨u,rfl,t,rfl⟩:=uA r
  exact P.str_of_str ⟨.str _,H,I,⟨_,rfl⟩,q⟩
def intT : List D->Option D | [.str x]=>if x.length <= 640 then (PySem.intText? x).map .int else none | _=>none
theorem Jk : uZ X (.type "int") intT:=by
 refine ⟨_,Vm,fun G H ds vs d Q sG r e k=>?_⟩
 unfold intT at e
 split at e
 ·split at e
  ·rename_i hl
   obtain ⟨n,e1,rfl⟩:=omE e
   obtain ⟨v,rfl,r1⟩:=ym r
   have r1:=r1.flat rfl
   simp only [Rep] at r1
   subst r1
   exact ⟨_,_,rfl,e1,hl,k _ G H (Grow.refl sG) (by simp [Rep])⟩
  ·cases e
 ·cases e
def strT : List D->Option D | [.int a]=>if a.natAbs.log2 < 1920 then some (.str (toString a)) else none | [.str x]=>some (.str x) | _=>none
theorem Vo : uZ X (.type "str") strT:=by
 refine ⟨_,Vn,fun G H ds vs d Q sG r e k=>?_⟩
 unfold strT at e
 split at e
 ·split at e
  ·rename_i hl
   cases e
   obtain ⟨v,rfl,r1⟩:=ym r
   have r1:=r1.flat rfl
   simp only [Rep] at r1
   subst r1
   exact .inl ⟨_,rfl,hl,k _ G H (Grow.refl sG) (by simp [Rep])⟩
  ·cases e
 ·cases e
  obtain ⟨v,rfl,r1⟩:=ym r
  have r1:=r1.flat rfl
  simp only [Rep] at r1
  subst r1
  exact .inr ⟨_,rfl,k _ G H (Grow.refl sG) (by simp [Rep])⟩
 ·cases e
instance (x : Str) (n : Int) : Decidable (MulOk x n):=inferInstanceAs (Decidable (_ /\ _ /\ _))
end
section
variable {X : Cx} {x : Str} {p px pT pos : Pos}
end
section
variable {X : Cx} {a b e : Expr} {pos p p1 p2 p3 : Pos} {f g : FE}
def tFV (t : TE) : TE:=fun σ H Q=>t σ H fun v H1=>∃ x,v = .str x /\ x.length <= sizeLine /\ Q (.str x) H1
theorem za9 {t : TE} (he : PE X e t) : PE X (.FormattedValue e (-1) none p) (tFV t):=by
 intro pins s σ H Q I h
 refine wpAny_FormattedValue_plain (thn (he pins s σ H _ I h) fun v s1 ⟨x,H1,I1,r1,y,ey,l1,q⟩=>?_)
 subst ey
 obtain ⟨tk,rfl⟩:=r1
 exact wpAny_formatField_str ⟨.str y,H1,I1,⟨_,rfl⟩,q⟩ ⟨.str y,H1,I1.tok _,⟨_,rfl⟩,q⟩ l1
def zcK (z : Str) (ta tb : TE) : TE:=fun σ H Q=>tFV ta σ H fun v H1=>∃ x,v = .str x /\ (Str.empty++x).length <= sizeLine /\ (Str.empty++x++z).length <= sizeLine /\
 tFV tb σ H1 fun u H2=>∃ y,u = .str y /\ (Str.empty++x++z++y).length <= sizeLine /\ Q (.str (Str.empty++x++z++y)) H2
theorem Jl {z : Str} {j} {ta tb : TE} (ha : PE X a ta) (hb : PE X b tb) : PE X (.JoinedStr [.FormattedValue a (-1) none p1,.Constant (.str z) j p2,.FormattedValue b (-1) none p3] pos) (zcK z ta tb):=by
 intro pins s σ H Q I h
 refine wpAny_JoinedStr ?_
 show wpAny _ _ (eval (.FormattedValue a (-1) none p1) X.env) _ _ _
 refine thn (za9 ha pins s σ H _ I h) fun v s1 ⟨x,H1,I1,r1,y,ey,l1,l2,q⟩=>?_
 subst ey
 obtain ⟨tk,rfl⟩:=r1
 refine ⟨y,tk,rfl,l1,Calls.Constant_str ?_⟩
 refine ⟨z,_,rfl,l2,?_⟩
 show wpAny _ _ (eval (.FormattedValue b (-1) none p3) X.env) _ _ _
 refine thn (za9 hb pins _ σ H1 _ (I1.tok _) q) fun u s2 ⟨x2,H2,I2,r2,y2,ey2,l3,q2⟩=>?_
 subst ey2
 obtain ⟨tk2,rfl⟩:=r2
 exact ⟨y2,tk2,rfl,l3,l3,.str _,H2,I2.tok _,⟨_,rfl⟩,q2⟩
@[simp] def Jm (f : FE) (z : Str) (g : FE) : FE:=fun δ=>match f δ,g δ with
 | some (.str x),some (.str y)=>if x.length <= sizeLine /\ y.length <= sizeLine /\ (Str.empty++x).length <= sizeLine /\ (Str.empty++x++z).length <= sizeLine /\ (Str.empty++x++z++y).length <= sizeLine then some (.str (Str.empty++x++z++y)) else none
 | _,_=>none
theorem Jn {z : Str} {j} (ha : PD X a f) (hb : PD X b g) : PD X (.JoinedStr [.FormattedValue a (-1) none p1,.Constant (.str z) j p2,.FormattedValue b (-1) none p3] pos) (Jm f z g):=by
 obtain ⟨ta,pa,ka⟩:=ha
 obtain ⟨tb,pb,kb⟩:=hb
 refine ⟨_,Jl pa pb,fun B G H δ σ d Q sG rs ef q=>?_⟩
 unfold Jm at ef
 split at ef
 ·rename_i x y e1 e2
  split at ef
  ·rename_i hl
   cases ef
   refine ka B G H δ σ _ _ sG rs e1 fun v G1 H1 g1 r1=>?_
   simp only [Rep] at r1
   refine ⟨x,r1,hl.1,x,rfl,hl.2.2.1,hl.2.2.2.1,?_⟩
   refine kb B G1 H1 δ σ _ _ g1.s (rs.grow g1) e2 fun u G2 H2 g2 r2=>?_
   simp only [Rep] at r2
   exact ⟨y,r2,hl.2.1,y,rfl,hl.2.2.2.2,q _ G2 H2 (g1.trans g2) (by simp [Rep])⟩
  ·cases ef
 ·cases ef
@[simp] def xOp (o : D->D->Option D) (f g : FX) : FX:=fun δ=>(f δ).bind fun r=>(g r.2).bind fun r'=>(o r.1 r'.1).map fun d=>(d,r'.2)
theorem zcL {op : Operator} {o : D->D->Option D} {f g : FX} (ho : OpD X (binaryOp op) o) (ha : PX X a f) (hb : PX X b g) : PX X (.BinOp a op b pos) (xOp o f g):=by
 obtain ⟨r,ho,ko⟩:=ho
 obtain ⟨ta,pa,ka⟩:=ha
 obtain ⟨tb,pb,kb⟩:=hb
 refine ⟨_,zak ho pa pb,fun B G H δ σ d δ' Q sG sB rs ef q=>?_⟩
 unfold xOp at ef
 obtain ⟨⟨x,δ1⟩,e1,ef⟩:=obE ef
 obtain ⟨⟨y,δ2⟩,e2,ef⟩:=obE ef
 obtain ⟨z,e3,ef⟩:=omE ef
 cases ef
 refine ka B G H δ σ x δ1 _ sG sB rs e1 fun v G1 H1 s1 rs1 r1=>kb B G1 H1 δ1 σ y δ2 _ s1.s s1.b rs1 e2 fun u G2 H2 s2 rs2 r2=>?_
 exact ko G2 H2 x y v u _ _ s2.s (wI.of (r1.mono s2.g)) (wI.of r2) e3 fun t G3 H3 g3 r3=>q t G3 H3 ((s1.trans s2).trans (g3.stp s2.b)) (rs2.grow g3) r3
def TX (K : PySem.W.Frag) : V->List V->Hp->VK->Prop:=fun x vs H Q=>∃ z a ys,x = .str z /\ vs = [.ref a] /\ SqT K H a (ys.map V.str) /\ (ys.map fun y=>y.length).sum + ys.length * z.length <= 16777216 /\ Q (.str (Txt.join z ys)) H
theorem UY : MtR X "str.join" (TX X.K):=by
 intro pins s σ H x vs v us Q I rx rv h
 obtain ⟨z,a,ys,rfl,rfl,hq,hl,q⟩:=h
 obtain ⟨t,rfl⟩:=rx
 obtain ⟨u,rfl,ru⟩:=rv.one
 cases ru
 obtain ⟨its,r,p,hz⟩:=I.tuple hq
 refine join_tuple p (by simpa using vM r) hl fun t' k=>?_
 exact ⟨.str (Txt.join z ys),H,I.tok _,⟨t',rfl⟩,q⟩
def UZ : D->D->Option D
 | .str z,.tup ds=>(xF ds).bind fun ys=>if (ys.map fun y=>y.length).sum + ys.length * z.length <= 16777216 then some (.str (Txt.join z ys)) else none
 | _,_=>none
theorem U0 {o a : Expr} {fo fa : FE} {p1 p2 : Pos} (ho : PD X o fo) (ha : PB X a fa)
  (hb : ∀ {to ta : TE},PE X o to->PE X a ta->PE X (.Call (.Attribute o "join" p1) [a] [] p2) (tBM X.K "str" (TX X.K) to (qO ta tNil)):=by
   intro to ta hx ht; exact jV PySem.F.plainAttrs_str PySem.F.slot_str_join PySem.F.type_str_join UY hx (ya ht yJ)) :
  PD X (.Call (.Attribute o "join" p1) [a] [] p2) (f2 UZ fo fa):=by
 obtain ⟨t1,q1,k1⟩:=ho
 obtain ⟨t2,q2,k2⟩:=ha
 refine ⟨_,hb q1 q2,fun B G H δ σ d Q sG rs ef k=>?_⟩
 unfold f2 at ef
 obtain ⟨x,e1,ef⟩:=obE ef
 obtain ⟨y,e2,ef⟩:=obE ef
 unfold UZ at ef
 split at ef
 ·rename_i z ds _
  obtain ⟨ys,e3,ef⟩:=obE ef
  split at ef
  ·rename_i hl
   cases ef
   refine k1 B G H δ σ _ _ sG rs e1 fun v G1 H1 g1 r1=>?_
   simp only [Rep] at r1
   subst r1
   refine ⟨rfl,k2 B G1 H1 δ σ _ _ g1.s (rs.grow g1) e2 fun u G2 H2 g2 r2=>?_⟩
   have r3:=r2.tup
   simp only [Rep] at r3
   obtain ⟨a,vs,rfl,hq,rl⟩:=r3
   obtain rfl:=tj e3 rl
   exact ⟨z,a,ys,rfl,rfl,g2.s.sqT hq,hl,k _ G2 H2 (g1.trans g2) (by simp [Rep])⟩
  ·cases ef
 ·cases ef
theorem Vp {ss : List Stmt} : WB X ss (fun _=>none):=⟨fun _ _ _=>False,fun _ _ _ _ _ _ h=>h.elim,fun _ _ _ _ _ _ _ _ _ _ e _=>by cases e⟩
end
end L2
namespace K41
open PySem PySem.Spec PyProof.Rows L2
def top (i : Nat) : Stmt:=PySem.Challenge.pw_reason_k41_texts.main.body.getD i (.Pass ⟨0,0,0,0⟩)
def kN : D:=(.int 8)
def wJ : D:=(.int 30)
def wm : D:=(.int 6)
def y0 : D:=(.int 4)
def xR : D:=(.int 4)
def qu : D:=(.int 4)
def tM : D:=(.tup [(.str "not"),(.str "if"),(.str "under"),(.str "unlike"),(.str "sum"),(.str "least"),(.str "count")])
structure Txt (K : PySem.W.Frag) (mg : Str->Option Value) : Prop where
 d_is_whole : zZ K mg "is_whole" (top 7)
 d_is_small : zZ K mg "is_small" (top 8)
 d_is_big : zZ K mg "is_big" (top 9)
 d_is_figure : zZ K mg "is_figure" (top 10)
 d_is_short_text : zZ K mg "is_short_text" (top 11)
 d_is_name : zZ K mg "is_name" (top 12)
 d_is_constant : zZ K mg "is_constant" (top 13)
 d_is_variable : zZ K mg "is_variable" (top 14)
 d_is_term : zZ K mg "is_term" (top 15)
 d_is_fact : zZ K mg "is_fact" (top 16)
 d_are_terms : zZ K mg "are_terms" (top 21)
 d_is_literal : zZ K mg "is_literal" (top 22)
 d_is_grouping : zZ K mg "is_grouping" (top 23)
 d_are_head_terms : zZ K mg "are_head_terms" (top 24)
 d_is_body : zZ K mg "is_body" (top 25)
 d_has_predicate : zZ K mg "has_predicate" (top 28)
 d_literal_variables : zZ K mg "literal_variables" (top 29)
 d_body_variables : zZ K mg "body_variables" (top 31)
 d_is_group : zZ K mg "is_group" (top 27)
 d_head_variables : zZ K mg "head_variables" (top 30)
 d_rule_variables : zZ K mg "rule_variables" (top 32)
 d_is_rule : zZ K mg "is_rule" (top 26)
 d_words_text : zZ K mg "words_text" (top 35)
 d_fact_text : zZ K mg "fact_text" (top 36)
 d_head_words : zZ K mg "head_words" (top 37)
 d_literal_words : zZ K mg "literal_words" (top 38)
 d_rule_text : zZ K mg "rule_text" (top 39)
 d_is_numeral : zZ K mg "is_numeral" (top 40)
 d_read_terms : zZ K mg "read_terms" (top 41)
 d_read_fact : zZ K mg "read_fact" (top 42)
 d_read_literal : zZ K mg "read_literal" (top 43)
 d_read_head_terms : zZ K mg "read_head_terms" (top 44)
 d_read_rule : zZ K mg "read_rule" (top 45)
 d__law_cell : zZ K mg "_law_cell" (top 47)
 d__law_stream : zZ K mg "_law_stream" (top 48)
 d__law_names : zZ K mg "_law_names" (top 49)
 d__law_variables : zZ K mg "_law_variables" (top 51)
 d__law_constant : zZ K mg "_law_constant" (top 52)
 d__law_fact : zZ K mg "_law_fact" (top 53)
 d__law_term : zZ K mg "_law_term" (top 54)
 d__law_literal : zZ K mg "_law_literal" (top 55)
 d__law_rule : zZ K mg "_law_rule" (top 56)
 d__law_words : zZ K mg "_law_words" (top 57)
 d__law_literal_text : zZ K mg "_law_literal_text" (top 58)
 d__law_same : zZ K mg "_law_same" (top 59)
 d_law : zZ K mg "law" (top 60)
 m_all : mg "all" = none
 m_bool : mg "bool" = none
 m_int : mg "int" = none
 m_isinstance : mg "isinstance" = none
 m_len : mg "len" = none
 m_max : mg "max" = none
 m_min : mg "min" = none
 m_range : mg "range" = none
 m_set : mg "set" = none
 m_sorted : mg "sorted" = none
 m_str : mg "str" = none
 m_tuple : mg "tuple" = none
 t_bool : vg K "bool"
 t_int : vg K "int"
 t_str : vg K "str"
 t_tuple : vg K "tuple"
 c_LONGEST : wd K mg "LONGEST" kN
 c_MOST_FIGURES : wd K mg "MOST_FIGURES" wJ
 c_MOST_LITERALS : wd K mg "MOST_LITERALS" wm
 c_MOST_PLACES : wd K mg "MOST_PLACES" y0
 c_MOST_VARIABLES : wd K mg "MOST_VARIABLES" xR
 c_MOST_YES : wd K mg "MOST_YES" qu
 c_WORDS : wd K mg "WORDS" tM
 x_0 : YI K "NoText"
noncomputable section
def ZV : FS:=(zA (yo (fSh (Yy (fIs "int" (zj 0)) (JZ (fIs "bool" (zj 0))))))
  sNil)
def M_is_whole : List D->Option Rs:=yN ["thing"] 1 ZV
def tN : FS:=(zA (yo (fSh (f3 (leD) (leD) (fC (.str "a")) (zj 0) (fC (.str "z")))))
  sNil)
def M_is_small : List D->Option Rs:=yN ["sign"] 1 tN
def kO : FS:=(zA (yo (fSh (f3 (leD) (leD) (fC (.str "A")) (zj 0) (fC (.str "Z")))))
  sNil)
def M_is_big : List D->Option Rs:=yN ["sign"] 1 kO
def ue : FS:=(zA (yo (fSh (f3 (leD) (leD) (fC (.str "0")) (zj 0) (fC (.str "9")))))
  sNil)
def M_is_figure : List D->Option Rs:=yN ["sign"] 1 ue
def xS : FS:=(zA (yo (fSh (Yy (fIs "str" (zj 0)) (f3 (leD) (leD) (fC (.int 1)) (zH lenD (zi (zj 0) fNil)) (fC kN)))))
  sNil)
def M_is_short_text : List D->Option Rs:=yN ["thing"] 1 xS
def qv : FS:=(zA (sIf (bOr (xO (fB (zM (zr M_is_short_text (zi (zU 0) fNil))))) (fB (f2 (inE false) (zj 0) (fC tM)))) (zA (yo (fSh (fC (.bl false))))
  sNil) sNil)
  (zA (yo (fSh (zH allD (zi (zM (yD 1 [] 0 (v3 (zU 0)) bYes (zM (zr M_is_small (zi (zU 0) fNil))))) fNil))))
  sNil))
def M_is_name : List D->Option Rs:=yN ["thing"] 1 qv
def wK : FS:=(zA (yo (fSh (fOr (zM (zr M_is_whole (zi (zU 0) fNil))) (zM (zr M_is_name (zi (zU 0) fNil))))))
  sNil)
def M_is_constant : List D->Option Rs:=yN ["thing"] 1 wK
def wL : FS:=(zA (sIf (bOr (xO (fB (zM (zr M_is_short_text (zi (zU 0) fNil))))) (xO (fB (zM (zr M_is_big (zi (f2 ixA (zj 0) (fC (.int 0))) fNil)))))) (zA (yo (fSh (fC (.bl false))))
  sNil) sNil)
  (zA (yo (fSh (zH allD (zi (zM (yD 1 [] 0 (v3 (zU 0)) bYes (fOr (zM (zr M_is_small (zi (zU 0) fNil))) (fOr (zM (zr M_is_big (zi (zU 0) fNil))) (zM (zr M_is_figure (zi (zU 0) fNil))))))) fNil))))
  sNil))
def M_is_variable : List D->Option Rs:=yN ["thing"] 1 wL
def qw : FS:=(zA (yo (fSh (fOr (zM (zr M_is_constant (zi (zU 0) fNil))) (zM (zr M_is_variable (zi (zU 0) fNil))))))
  sNil)
def M_is_term : List D->Option Rs:=yN ["thing"] 1 qw
def qx : FS:=(zA (sIf (bOr (xO (fB (fIs "tuple" (zj 0)))) (fB (f2 (neE) (zH lenD (zi (zj 0) fNil)) (fC (.int 2))))) (zA (yo (fSh (fC (.bl false))))
  sNil) sNil)
  (zA (yu 1 (f2 ixA (zj 0) (fC (.int 1))))
  (zA (sIf (bOr (xO (fB (zM (zr M_is_name (zi (f2 ixA (zj 0) (fC (.int 0))) fNil))))) (bOr (xO (fB (fIs "tuple" (zj 1)))) (fB (f2 (gtD) (zH lenD (zi (zj 1) fNil)) (fC y0))))) (zA (yo (fSh (fC (.bl false))))
  sNil) sNil)
  (zA (yo (fSh (zH allD (zi (zM (yD 1 [] 0 (v3 (zU 1)) bYes (zM (zr M_is_constant (zi (zU 0) fNil))))) fNil))))
  sNil))))
def M_is_fact : List D->Option Rs:=yN ["thing","places"] 1 qx
def uf : FS:=(zA (sIf (bOr (xO (fB (fIs "tuple" (zj 0)))) (fB (f2 (gtD) (zH lenD (zi (zj 0) fNil)) (fC y0)))) (zA (yo (fSh (fC (.bl false))))
  sNil) sNil)
  (zA (yo (fSh (zH allD (zi (zM (yD 1 [] 0 (v3 (zU 0)) bYes (zM (zr M_is_term (zi (zU 0) fNil))))) fNil))))
  sNil))
def M_are_terms : List D->Option Rs:=yN ["thing"] 1 uf
def y6 : FS:=(zA (sIf (bOr (xO (fB (fIs "tuple" (zj 0)))) (bOr (fB (f2 (neE) (zH lenD (zi (zj 0) fNil)) (fC (.int 3)))) (xO (fB (fIs "str" (f2 ixA (zj 0) (fC (.int 0)))))))) (zA (yo (fSh (fC (.bl false))))
  sNil) sNil)
  (zA (sIf (fB (f2 (inE false) (f2 ixA (zj 0) (fC (.int 0))) (xZ (zi (fC (.str "yes")) (zi (fC (.str "not")) fNil))))) (zA (yo (fSh (Yy (zM (zr M_is_name (zi (f2 ixA (zj 0) (fC (.int 1))) fNil))) (zM (zr M_are_terms (zi (f2 ixA (zj 0) (fC (.int 2))) fNil))))))
  sNil) sNil)
  (zA (yo (fSh (Yy (f2 (inE false) (f2 ixA (zj 0) (fC (.int 0))) (xZ (zi (fC (.str "under")) (zi (fC (.str "unlike")) fNil)))) (Yy (zM (zr M_is_term (zi (f2 ixA (zj 0) (fC (.int 1))) fNil))) (zM (zr M_is_term (zi (f2 ixA (zj 0) (fC (.int 2))) fNil)))))))
  sNil)))
def M_is_literal : List D->Option Rs:=yN ["thing"] 1 y6
def wM : FS:=(zA (sIf (bOr (xO (fB (fIs "tuple" (zj 0)))) (bOr (fB (f2 (inE true) (zH lenD (zi (zj 0) fNil)) (xZ (zi (fC (.int 1)) (zi (fC (.int 2)) fNil))))) (xO (fB (fIs "str" (f2 ixA (zj 0) (fC (.int 0)))))))) (zA (yo (fSh (fC (.bl false))))
  sNil) sNil)
  (zA (sIf (fB (f2 (eqO false) (zH lenD (zi (zj 0) fNil)) (fC (.int 1)))) (zA (yo (fSh (f2 (eqO false) (f2 ixA (zj 0) (fC (.int 0))) (fC (.str "count")))))
  sNil) sNil)
  (zA (yo (fSh (Yy (f2 (inE false) (f2 ixA (zj 0) (fC (.int 0))) (xZ (zi (fC (.str "sum")) (zi (fC (.str "least")) fNil)))) (zM (zr M_is_variable (zi (f2 ixA (zj 0) (fC (.int 1))) fNil))))))
  sNil)))
def M_is_grouping : List D->Option Rs:=yN ["thing"] 1 wM
def xt : FS:=(zA (sIf (bOr (xO (fB (fIs "tuple" (zj 0)))) (fB (f2 (gtD) (zH lenD (zi (zj 0) fNil)) (fC y0)))) (zA (yo (fSh (fC (.bl false))))
  sNil) sNil)
  (zA (sIf (JY (fB (f2 (gtD) (zH lenD (zi (zj 0) fNil)) (fC (.int 0)))) (fB (zM (zr M_is_grouping (zi (f2 ixA (zj 0) (f1 Zt (fC (.int 1)))) fNil))))) (zA (yo (zr M_are_terms (zi (zM (uN (zj 0) (fun _=>some none) (wU (f1 Zt (fC (.int 1)))))) fNil)))
  sNil) sNil)
  (zA (yo (zr M_are_terms (zi (zU 0) fNil)))
  sNil)))
def M_are_head_terms : List D->Option Rs:=yN ["thing"] 1 xt
def qy : FS:=(zA (sIf (bOr (xO (fB (fIs "tuple" (zj 0)))) (xO (fB (f3 (leD) (leD) (fC (.int 1)) (zH lenD (zi (zj 0) fNil)) (fC wm))))) (zA (yo (fSh (fC (.bl false))))
  sNil) sNil)
  (zA (sIf (xO (fB (zH allD (zi (zM (yD 1 [] 0 (v3 (zU 0)) bYes (zM (zr M_is_literal (zi (zU 0) fNil))))) fNil)))) (zA (yo (fSh (fC (.bl false))))
  sNil) sNil)
  (zA (yo (fSh (f2 (leD) (zH lenD (zi (zM (yD 1 [] 0 (v3 (zU 0)) (fB (f2 (eqO false) (f2 ixA (zj 0) (fC (.int 0))) (fC (.str "yes")))) (zU 0))) fNil)) (fC qu))))
  sNil)))
def M_is_body : List D->Option Rs:=yN ["thing"] 1 qy
def xT : FS:=(zA (yo (fSh (f2 (inE false) (f2 ixA (zj 0) (fC (.int 0))) (xZ (zi (fC (.str "yes")) (zi (fC (.str "not")) fNil))))))
  sNil)
def M_has_predicate : List D->Option Rs:=yN ["literal"] 1 xT
def yd : FS:=(zA (yu 1 (fIf (fB (zM (zr M_has_predicate (zi (zU 0) fNil)))) (f2 ixA (zj 0) (fC (.int 2))) (zM (uN (zj 0) (wU (fC (.int 1))) (fun _=>some none)))))
  (zA (yo (yD 1 [] 0 (v3 (zU 1)) (fB (zM (zr M_is_variable (zi (zU 0) fNil)))) (zU 0)))
  sNil))
def M_literal_variables : List D->Option Rs:=yN ["literal","terms"] 1 yd
def xu : FS:=(zA (tY 1 (wD fNil))
  (zA (XU 2 (v3 (zU 0)) (zA (zaV 1 (zr M_literal_variables (zi (zU 2) fNil)))
  sNil))
  (zA (yo (wy (zj 1)))
  sNil)))
def M_body_variables : List D->Option Rs:=yN ["body","found","literal"] 1 xu
def wT : FS:=(zA (yo (fSh (Yy (f2 (gtD) (zH lenD (zi (f2 ixA (zj 0) (fC (.int 1))) fNil)) (fC (.int 0))) (fIs "tuple" (f2 ixA (f2 ixA (zj 0) (fC (.int 1))) (f1 Zt (fC (.int 1))))))))
  sNil)
def M_is_group : List D->Option Rs:=yN ["rule"] 1 wT
def xv : FS:=(zA (yu 1 (fIf (fB (zM (zr M_is_group (zi (zU 0) fNil)))) (f2 addD (zM (uN (f2 ixA (zj 0) (fC (.int 1))) (fun _=>some none) (wU (f1 Zt (fC (.int 1)))))) (zM (uN (f2 ixA (f2 ixA (zj 0) (fC (.int 1))) (f1 Zt (fC (.int 1)))) (wU (fC (.int 1))) (fun _=>some none)))) (f2 ixA (zj 0) (fC (.int 1)))))
  (zA (yo (yD 1 [] 0 (v3 (zU 1)) (fB (zM (zr M_is_variable (zi (zU 0) fNil)))) (zU 0)))
  sNil))
def M_head_variables : List D->Option Rs:=yN ["rule","terms"] 1 xv
def xw : FS:=(zA (yo (wy (f2 addD (zM (zr M_head_variables (zi (zU 0) fNil))) (zM (zr M_body_variables (zi (f2 ixA (zj 0) (fC (.int 2))) fNil))))))
  sNil)
def M_rule_variables : List D->Option Rs:=yN ["rule"] 1 xw
def qz : FS:=(zA (sIf (bOr (xO (fB (fIs "tuple" (zj 0)))) (fB (f2 (neE) (zH lenD (zi (zj 0) fNil)) (fC (.int 3))))) (zA (yo (fSh (fC (.bl false))))
  sNil) sNil)
  (zA (sIf (bOr (xO (fB (zM (zr M_is_name (zi (f2 ixA (zj 0) (fC (.int 0))) fNil))))) (bOr (xO (fB (zM (zr M_are_head_terms (zi (f2 ixA (zj 0) (fC (.int 1))) fNil))))) (xO (fB (zM (zr M_is_body (zi (f2 ixA (zj 0) (fC (.int 2))) fNil))))))) (zA (yo (fSh (fC (.bl false))))
  sNil) sNil)
  (zA (yo (fSh (f2 (leD) (zH lenD (zi (zM (zr M_rule_variables (zi (zU 0) fNil))) fNil)) (fC xR))))
  sNil)))
def M_is_rule : List D->Option Rs:=yN ["thing"] 1 qz
def vn : FS:=(zA (yo (fSh (f2 uB (fC (.str " ")) (zM (yD 1 [] 0 (v3 (zU 0)) bYes (zH strT (zi (zj 0) fNil)))))))
  sNil)
def M_words_text : List D->Option Rs:=yN ["words"] 1 vn
def ug : FS:=(zA (yo (zr M_words_text (zi (f2 addD (xZ (zi (f2 ixA (zj 0) (fC (.int 0))) fNil)) (f2 ixA (zj 0) (fC (.int 1)))) fNil)))
  sNil)
def M_fact_text : List D->Option Rs:=yN ["fact"] 1 ug
def vo : FS:=(zA (yu 1 (fIf (fB (zM (zr M_is_group (zi (zU 0) fNil)))) (f2 addD (zM (uN (f2 ixA (zj 0) (fC (.int 1))) (fun _=>some none) (wU (f1 Zt (fC (.int 1)))))) (f2 ixA (f2 ixA (zj 0) (fC (.int 1))) (f1 Zt (fC (.int 1))))) (f2 ixA (zj 0) (fC (.int 1)))))
  (zA (yo (fSh (f2 addD (xZ (zi (f2 ixA (zj 0) (fC (.int 0))) fNil)) (zj 1))))
  sNil))
def M_head_words : List D->Option Rs:=yN ["rule","terms"] 1 vo
def yA : FS:=(zA (sIf (xO (fB (zM (zr M_has_predicate (zi (zU 0) fNil))))) (zA (ve 0)
  sNil) sNil)
  (zA (yu 1 (f2 addD (xZ (zi (f2 ixA (zj 0) (fC (.int 1))) fNil)) (f2 ixA (zj 0) (fC (.int 2)))))
  (zA (yo (fSh (fIf (fB (f2 (eqO false) (f2 ixA (zj 0) (fC (.int 0))) (fC (.str "yes")))) (zU 1) (f2 addD (xZ (zi (fC (.str "not")) fNil)) (zj 1)))))
  sNil)))
def M_literal_words : List D->Option Rs:=yN ["literal","words"] 1 yA
def uh : FS:=(zA (yu 1 (zM (zr M_words_text (zi (zM (zr M_head_words (zi (zU 0) fNil))) fNil))))
  (zA (yu 2 (f2 uB (fC (.str ", ")) (zM (yD 1 [] 0 (v3 (f2 ixA (zj 0) (fC (.int 2)))) bYes (zM (zr M_words_text (zi (zM (zr M_literal_words (zi (zU 0) fNil))) fNil)))))))
  (zA (yo (fSh (Jm (zU 1) " if " (zU 2))))
  sNil)))
def M_rule_text : List D->Option Rs:=yN ["rule","head","body"] 1 uh
def vp : FS:=(zA (yu 1 (fIf (fB (f2 ji (zU 0) (fC (.str "-")))) (Jj (zj 0) (wU (fC (.int 1))) (fun _=>some none)) (zU 0)))
  (zA (sIf (bOr (xO (fB (f3 (leD) (leD) (fC (.int 1)) (zH lenD (zi (zj 1) fNil)) (fC wJ)))) (xO (fB (zH allD (zi (zM (yD 1 [] 0 (v3 (zU 1)) bYes (zM (zr M_is_figure (zi (zU 0) fNil))))) fNil))))) (zA (yo (fSh (fC (.bl false))))
  sNil) sNil)
  (zA (yo (fSh (fOr (f2 (neE) (f2 ixA (zj 1) (fC (.int 0))) (fC (.str "0"))) (f2 (eqO false) (zj 0) (fC (.str "0"))))))
  sNil)))
def M_is_numeral : List D->Option Rs:=yN ["word","figures"] 1 vp
def vq : FS:=(zA (yo (fSh (zH tupD (zi (zM (yD 1 [] 0 (v3 (zU 0)) bYes (fIf (fB (zM (zr M_is_numeral (zi (zU 0) fNil)))) (zH intT (zi (zj 0) fNil)) (zU 0)))) fNil))))
  sNil)
def M_read_terms : List D->Option Rs:=yN ["words"] 1 vq
def yT : FS:=(zA (yu 1 (zM (ud (zU 0) (fC (.str " ")))))
  (zA (yu 2 (xZ (zi (f2 ixA (zj 1) (fC (.int 0))) (zi (zM (zr M_read_terms (zi (zM (uN (zj 1) (wU (fC (.int 1))) (fun _=>some none))) fNil))) fNil))))
  (zA (sIf (xO (fB (zM (zr M_is_fact (zi (zU 2) fNil))))) (zA (qj "NoText" (zi (fC (.str "this text is no fact")) fNil))
  sNil) sNil)
  (zA (ve 2)
  sNil))))
def M_read_fact : List D->Option Rs:=yN ["text","words","fact"] 1 yT
def wn : FS:=(zA (yu 1 (zM (ud (zU 0) (fC (.str " ")))))
  (zA (sIf (fB (f2 (inE false) (f2 ixA (zj 1) (fC (.int 0))) (xZ (zi (fC (.str "under")) (zi (fC (.str "unlike")) fNil))))) (zA (yo (fSh (f2 addD (xZ (zi (f2 ixA (zj 1) (fC (.int 0))) fNil)) (zM (zr M_read_terms (zi (zM (uN (zj 1) (wU (fC (.int 1))) (fun _=>some none))) fNil))))))
  sNil) sNil)
  (zA (sIf (fB (f2 (neE) (f2 ixA (zj 1) (fC (.int 0))) (fC (.str "not")))) (zA (yo (fSh (xZ (zi (fC (.str "yes")) (zi (f2 ixA (zj 1) (fC (.int 0))) (zi (zM (zr M_read_terms (zi (zM (uN (zj 1) (wU (fC (.int 1))) (fun _=>some none))) fNil))) fNil))))))
  sNil) sNil)
  (zA (yo (fSh (xZ (zi (fC (.str "not")) (zi (f2 uB (fC (.str "")) (zM (uN (zj 1) (wU (fC (.int 1))) (wU (fC (.int 2)))))) (zi (zM (zr M_read_terms (zi (zM (uN (zj 1) (wU (fC (.int 2))) (fun _=>some none))) fNil))) fNil))))))
  sNil))))
def M_read_literal : List D->Option Rs:=yN ["text","words"] 1 wn
def yH : FS:=(zA (sIf (fB (f2 (eqO false) (zM (uN (zj 0) (wU (f1 Zt (fC (.int 1)))) (fun _=>some none))) (zM (wD (zi (fC (.str "count")) fNil))))) (zA (yo (fSh (f2 addD (zM (zr M_read_terms (zi (zM (uN (zj 0) (fun _=>some none) (wU (f1 Zt (fC (.int 1)))))) fNil))) (xZ (zi (xZ (zi (fC (.str "count")) fNil)) fNil)))))
  sNil) sNil)
  (zA (sIf (fB (f2 (inE false) (zM (uN (zj 0) (wU (f1 Zt (fC (.int 2)))) (wU (f1 Zt (fC (.int 1)))))) (xZ (zi (zM (wD (zi (fC (.str "sum")) fNil))) (zi (zM (wD (zi (fC (.str "least")) fNil))) fNil))))) (zA (yo (fSh (f2 addD (zM (zr M_read_terms (zi (zM (uN (zj 0) (fun _=>some none) (wU (f1 Zt (fC (.int 2)))))) fNil))) (xZ (zi (zH tupD (zi (zM (uN (zj 0) (wU (f1 Zt (fC (.int 2)))) (fun _=>some none))) fNil)) fNil)))))
  sNil) sNil)
  (zA (yo (zr M_read_terms (zi (zU 0) fNil)))
  sNil)))
def M_read_head_terms : List D->Option Rs:=yN ["words"] 1 yH
def yU : FS:=(zA (yu 1 (f2 ZU (zU 0) (fC (.str " if "))))
  (zA (yu 2 (zM (ud (f2 ixA (zj 1) (fC (.int 0))) (fC (.str " ")))))
  (zA (yu 3 (zM (yD 1 [] 0 (v3 (zM (ud (f2 ixA (zj 1) (fC (.int 2))) (fC (.str ", "))))) bYes (zM (zr M_read_literal (zi (zU 0) fNil))))))
  (zA (yu 4 (xZ (zi (f2 ixA (zj 2) (fC (.int 0))) (zi (zM (zr M_read_head_terms (zi (zM (uN (zj 2) (wU (fC (.int 1))) (fun _=>some none))) fNil))) (zi (zH tupD (zi (zj 3) fNil)) fNil)))))
  (zA (sIf (xO (fB (zM (zr M_is_rule (zi (zU 4) fNil))))) (zA (qj "NoText" (zi (fC (.str "this text is no rule")) fNil))
  sNil) sNil)
  (zA (ve 4)
  sNil))))))
def M_read_rule : List D->Option Rs:=yN ["text","parts","head","body","rule"] 1 yU
def ui : FS:=(zA (sIf (fB (f2 (ltE) (zj 1) (zH lenD (zi (zj 0) fNil)))) (zA (yo (fSh (f2 ixA (zj 0) (zj 1))))
  sNil) sNil)
  (zA (yu 2 (f2 addD (f2 mulD (zj 1) (fC (.int 7919))) (fC (.int 5))))
  (zA (sIf (fB (f2 (gtD) (zH lenD (zi (zj 0) fNil)) (fC (.int 0)))) (zA (yu 2 (f2 modD (f2 addD (f2 mulD (f2 ixA (zj 0) (f2 modD (f2 mulD (zj 1) (fC (.int 7))) (zH lenD (zi (zj 0) fNil)))) (fC (.int 48271))) (f2 mulD (zj 1) (fC (.int 7919)))) (fC (.int 2147483647))))
  sNil) sNil)
  (zA (yo (fSh (f2 modD (f2 mulD (zj 2) (zj 2)) (fC (.int 2147483629)))))
  sNil))))
def M__law_cell : List D->Option Rs:=yN ["_law_script","_law_k","_law_number"] 2 ui
def xm : FS:=(zA (tY 2 (wD fNil))
  (zA (yu 3 (f2 fdivD (zj 0) (fC (.int 2))))
  (zA (XU 4 (WF (zU 1)) (zA (sIf (fB (f2 (eqO false) (f2 modD (zj 0) (fC (.int 2))) (fC (.int 1)))) (zA (TF 2 (f2 modD (zj 3) (f2 powD (fC (.int 10)) (fC (.int 4)))))
  (zA (yu 3 (f2 fdivD (zj 3) (f2 powD (fC (.int 10)) (fC (.int 4)))))
  sNil)) (zA (yu 3 (f2 modD (f2 addD (f2 mulD (zj 3) (fC (.int 48271))) (fC (.int 12345))) (fC (.int 2147483647))))
  (zA (TF 2 (f2 modD (f2 mulD (zj 3) (fC (.int 69621))) (fC (.int 2147483629))))
  sNil)))
  sNil))
  (zA (ve 2)
  sNil))))
def M__law_stream : List D->Option Rs:=yN ["_law_cell_here","_law_many","_law_xs","_law_number","_law_k"] 2 xm
def vt : FS:=(zA (yu 2 (fC (.str "abcdefghijklmnopqrstuvwxyz")))
  (zA (yu 3 (f2 addD (fC (.int 1)) (f2 modD (zj 0) (fC (.int 8)))))
  (zA (yu 4 (f2 modD (f2 fdivD (zj 0) (fC (.int 8))) (zj 3)))
  (zA (yu 5 (zM (yD 1 [] 0 (v3 (zM (zr M__law_stream (zi (f2 fdivD (zj 0) (fC (.int 64))) (zi (fC (.int 8)) fNil))))) bYes (f2 modD (zj 0) (fC (.int 26))))))
  (zA (tY 6 (wD fNil))
  (zA (XU 7 (WF (zU 1)) (zA (yu 8 (f2 uB (fC (.str "")) (zM (yD 1 [2,4,5,7] 0 (WF (zU 3)) bYes (f2 ixA (zj 1) (f2 modD (f2 addD (f2 ixA (zj 3) (zj 0)) (f2 mulD (f2 mulD (fC (.int 3)) (zj 4)) (zH intD (zi (f2 (eqO false) (zj 0) (zj 2)) fNil)))) (fC (.int 26))))))))
  (zA (sIf (fB (f2 (inE false) (zj 8) (xZ (zi (fC (.str "not")) (zi (fC (.str "if")) (zi (fC (.str "under")) (zi (fC (.str "unlike")) (zi (fC (.str "sum")) (zi (fC (.str "least")) (zi (fC (.str "count")) fNil)))))))))) (zA (yu 8 (f2 addD (fC (.str "x")) (zj 8)))
  sNil) sNil)
  (zA (TF 6 (zU 8))
  sNil))))
  (zA (ve 6)
  sNil)))))))
def M__law_names : List D->Option Rs:=yN ["_law_cell_here","_law_many","_law_some","_law_size","_law_at","_law_base","_law_names_here","_law_k","_law_name"] 2 vt
def xx : FS:=(zA (yu 1 (fC (.str "ABCDEFGHIJKLMNOPQRSTUVWXYZ")))
  (zA (yu 2 (fC (.str "abcdefghijklmnopqrstuvwxyz0123456789ABCDEFGHIJKLMNOPQRSTUVWXYZ")))
  (zA (yu 3 (f2 addD (fC (.int 1)) (f2 modD (zj 0) (fC (.int 8)))))
  (zA (yu 4 (f2 modD (f2 fdivD (zj 0) (fC (.int 8))) (zj 3)))
  (zA (yu 5 (zM (zr M__law_stream (zi (f2 fdivD (zj 0) (fC (.int 64))) (zi (fC (.int 8)) fNil)))))
  (zA (tY 6 (wD fNil))
  (zA (XU 7 (WF (fC (.int 4))) (zA (yu 8 (f2 ixA (zj 1) (f2 modD (f2 addD (f2 ixA (zj 5) (fC (.int 0))) (f2 mulD (f2 mulD (fC (.int 5)) (zj 7)) (zH intD (zi (f2 (eqO false) (zj 4) (fC (.int 0))) fNil)))) (fC (.int 26)))))
  (zA (XU 9 (ZI (fC (.int 1)) (zU 3)) (zA (yu 8 (f2 addD (zj 8) (f2 ixA (zj 2) (f2 modD (f2 addD (f2 ixA (zj 5) (zj 9)) (f2 mulD (f2 mulD (fC (.int 5)) (zj 7)) (zH intD (zi (f2 (eqO false) (zj 4) (zj 9)) fNil)))) (fC (.int 62))))))
  sNil))
  (zA (TF 6 (zU 8))
  sNil))))
  (zA (ve 6)
  sNil))))))))
def M__law_variables : List D->Option Rs:=yN ["_law_cell_here","_law_great","_law_some","_law_size","_law_at","_law_xs","_law_names_here","_law_k","_law_name","_law_j"] 1 xx
def xU : FS:=(zA (yu 3 (f2 modD (zj 0) (fC (.int 5))))
  (zA (sIf (fB (f2 (ltE) (zj 3) (fC (.int 2)))) (zA (yo (fSh (f2 ixA (zj 2) (f2 modD (f2 fdivD (zj 0) (fC (.int 5))) (zH lenD (zi (zj 2) fNil))))))
  sNil) sNil)
  (zA (sIf (fB (f2 (eqO false) (zj 3) (fC (.int 2)))) (zA (yo (fSh (f2 subD (f2 modD (f2 fdivD (zj 0) (fC (.int 5))) (fC (.int 23))) (fC (.int 11)))))
  sNil) sNil)
  (zA (yu 4 (f2 modD (f2 addD (f2 addD (f2 mulD (zj 0) (f2 powD (fC (.int 10)) (fC (.int 26)))) (f2 mulD (zj 1) (f2 powD (fC (.int 10)) (fC (.int 18))))) (zj 0)) (f2 powD (fC (.int 10)) (fC (.int 30)))))
  (zA (yo (fSh (f2 ixA (zM (wD (zi (zU 4) (zi (f2 subD (fC (.int 0)) (zj 4)) fNil)))) (f2 subD (zj 3) (fC (.int 3))))))
  sNil)))))
def M__law_constant : List D->Option Rs:=yN ["_law_x","_law_y","_law_names_here","_law_way","_law_one"] 3 xU
def uj : FS:=(zA (yu 2 (zM (zr M__law_stream (zi (zU 0) (zi (fC (.int 10)) fNil)))))
  (zA (yu 3 (zH tupD (zi (zM (yD 1 [1,2] 0 (ZI (fC (.int 1)) (f2 addD (fC (.int 1)) (f2 modD (f2 ixA (zj 2) (fC (.int 0))) (fC (.int 5))))) bYes (zM (zr M__law_constant (zi (f2 ixA (zj 2) (f2 mulD (fC (.int 2)) (zj 0))) (zi (f2 ixA (zj 2) (f2 addD (f2 mulD (fC (.int 2)) (zj 0)) (fC (.int 1)))) (zi (zU 1) fNil))))))) fNil)))
  (zA (yo (fSh (xZ (zi (f2 ixA (zj 1) (f2 modD (f2 ixA (zj 2) (fC (.int 1))) (zH lenD (zi (zj 1) fNil)))) (zi (zM (uN (zj 3) (fun _=>some none) (wU (fC (.int 4))))) fNil)))))
  sNil)))
def M__law_fact : List D->Option Rs:=yN ["_law_cell_here","_law_names_here","_law_xs","_law_places"] 2 uj
def uk : FS:=(zA (sIf (fB (f2 (gtD) (f2 modD (zj 0) (fC (.int 3))) (fC (.int 0)))) (zA (yo (fSh (f2 ixA (zj 2) (f2 modD (f2 fdivD (zj 0) (fC (.int 3))) (zH lenD (zi (zj 2) fNil))))))
  sNil) sNil)
  (zA (yo (zr M__law_constant (zi (f2 fdivD (zj 0) (fC (.int 3))) (zi (zU 0) (zi (zU 1) fNil)))))
  sNil))
def M__law_term : List D->Option Rs:=yN ["_law_x","_law_names_here","_law_variables_here"] 3 uk
def xb : FS:=(zA (kg 4 (kx 0))
  (zA (sIf (fB (f2 (gtD) (f2 modD (zj 4) (fC (.int 6))) (fC (.int 3)))) (zA (kg 5 (tu M__law_term (Q5 (kx 0) (zi (zj 1) (zi (zj 2) fNil)))))
  (zA (WZ (J1 (kq (xD (f2 ixA (zM (wD (zi (fC (.str "under")) (zi (fC (.str "unlike")) fNil)))) (f2 modD (zj 4) (fC (.int 2))))) (kq (xD (zU 5)) (kq (tu M__law_term (Q5 (kx 0) (zi (zj 1) (zi (zj 2) fNil)))) xNil)))))
  sNil)) sNil)
  (zA (yu 6 (fC (.str "yes")))
  (zA (sIf (bOr (fB (f2 (eqO false) (f2 modD (zj 4) (fC (.int 6))) (fC (.int 3)))) (fB (f2 (gtD) (zj 3) (fC (.int 3))))) (zA (yu 6 (fC (.str "not")))
  sNil) sNil)
  (zA (kg 7 (kB tupD (Xq 1 [0,1,2] 0 (WF (f2 modD (f2 fdivD (zj 4) (fC (.int 6))) (fC (.int 5)))) (tu M__law_term (Q5 (kx 1) (zi (zj 2) (zi (zj 3) fNil)))))))
  (zA (yo (fSh (xZ (zi (zU 6) (zi (f2 ixA (zj 1) (f2 modD (f2 fdivD (zj 4) (fC (.int 30))) (zH lenD (zi (zj 1) fNil)))) (zi (zU 7) fNil))))))
  sNil))))))
def M__law_literal : List Sl->Option (Rs × En):=TM ["_law_xs","_law_names_here","_law_variables_here","_law_many","_law_x","_law_one","_law_kind","_law_terms"] 4 xb
def ul : FS:=(zA (yu 3 (zM (zr M__law_stream (zi (zU 0) (zi (fC (.int 38)) fNil)))))
  (zA (tY 4 (uN (zj 3) (wU (fC (.int 8))) (fun _=>some none)))
  (zA (yu 5 (xZ fNil))
  (zA (XU 6 (WF (f2 addD (fC (.int 1)) (f2 modD (f2 ixA (zj 3) (fC (.int 0))) (fC (.int 6))))) (zA (yu 7 (zH lenD (zi (zM (yD 1 [] 0 (v3 (zU 5)) (fB (f2 (eqO false) (f2 ixA (zj 0) (fC (.int 0))) (fC (.str "yes")))) (zU 0))) fNil)))
  (zA (kg 5 (xOp addD (xD (zU 5)) (J1 (kq (kn M__law_literal [.own 4,.val (zU 1),.val (zU 2),.val (zU 7)]) xNil))))
  sNil)))
  (zA (yu 8 (zH tupD (zi (zM (yD 1 [1,2] 0 (v3 (zM (uN (zj 3) (wU (fC (.int 4))) (wU (f2 addD (fC (.int 4)) (f2 modD (f2 ixA (zj 3) (fC (.int 1))) (fC (.int 5)))))))) bYes (zM (zr M__law_term (zi (zU 0) (zi (zU 1) (zi (zU 2) fNil))))))) fNil)))
  (zA (sIf (fB (f2 (ltE) (f2 modD (f2 ixA (zj 3) (fC (.int 2))) (fC (.int 6))) (fC (.int 3)))) (zA (yu 9 (f2 ixA (zM (wD (zi (xZ (zi (fC (.str "sum")) (zi (f2 ixA (zj 2) (f2 modD (f2 ixA (zj 3) (fC (.int 3))) (fC (.int 4)))) fNil))) (zi (xZ (zi (fC (.str "least")) (zi (f2 ixA (zj 2) (f2 modD (f2 ixA (zj 3) (fC (.int 3))) (fC (.int 4)))) fNil))) (zi (xZ (zi (fC (.str "count")) fNil)) fNil))))) (f2 modD (f2 ixA (zj 3) (fC (.int 2))) (fC (.int 6)))))
  (zA (yu 8 (f2 addD (zM (uN (zj 8) (fun _=>some none) (wU (fC (.int 3))))) (xZ (zi (zU 9) fNil))))
  sNil)) sNil)
  (zA (yo (fSh (xZ (zi (f2 ixA (zj 1) (f2 modD (f2 fdivD (f2 ixA (zj 3) (fC (.int 2))) (fC (.int 6))) (zH lenD (zi (zj 1) fNil)))) (zi (zU 8) (zi (zU 5) fNil))))))
  sNil)))))))
def M__law_rule : List D->Option Rs:=yN ["_law_cell_here","_law_names_here","_law_variables_here","_law_xs","_law_rest","_law_body","_law_k","_law_many","_law_terms","_law_way"] 3 ul
def vw : FS:=(zA (yu 1 (fC (.str "")))
  (zA (XU 2 (v3 (zU 0)) (zA (sIf (fB (fIs "tuple" (zj 2))) (zA (yu 1 (f2 addD (f2 addD (zj 1) (fC (.str " "))) (f2 UZ (fC (.str " ")) (zj 2))))
  sNil) (zA (yu 1 (f2 addD (f2 addD (zj 1) (fC (.str " "))) (zH strT (zi (zj 2) fNil))))
  sNil))
  sNil))
  (zA (yo (fSh (Jj (zj 1) (wU (fC (.int 1))) (fun _=>some none))))
  sNil)))
def M__law_words : List D->Option Rs:=yN ["_law_words_here","_law_text","_law_word"] 1 vw
def ye : FS:=(zA (sIf (fB (f2 (eqO false) (f2 ixA (zj 0) (fC (.int 0))) (fC (.str "yes")))) (zA (yo (zr M__law_words (zi (f2 addD (xZ (zi (f2 ixA (zj 0) (fC (.int 1))) fNil)) (f2 ixA (zj 0) (fC (.int 2)))) fNil)))
  sNil) sNil)
  (zA (sIf (fB (f2 (eqO false) (f2 ixA (zj 0) (fC (.int 0))) (fC (.str "not")))) (zA (yo (fSh (f2 addD (fC (.str "not ")) (zM (zr M__law_words (zi (f2 addD (xZ (zi (f2 ixA (zj 0) (fC (.int 1))) fNil)) (f2 ixA (zj 0) (fC (.int 2)))) fNil))))))
  sNil) sNil)
  (zA (yo (zr M__law_words (zi (zU 0) fNil)))
  sNil)))
def M__law_literal_text : List D->Option Rs:=yN ["_law_literal_here"] 1 ye
def xh (M__law_same : List D->Option Rs) : FS:=(zA (sIf (fB (fIs "tuple" (zj 1))) (zA (sIf (bOr (xO (fB (fIs "tuple" (zj 0)))) (fB (f2 (neE) (zH lenD (zi (zj 0) fNil)) (zH lenD (zi (zj 1) fNil))))) (zA (yo (fSh (fC (.bl false))))
  sNil) sNil)
  (zA (yo (fSh (f2 (eqO false) (zM (yD 1 [0,1] 0 (WF (zH lenD (zi (zj 1) fNil))) (xO (fB (zM (zr M__law_same (zi (f2 ixA (zj 1) (zj 0)) (zi (f2 ixA (zj 2) (zj 0)) fNil)))))) (zU 0))) (zM (wD fNil)))))
  sNil)) sNil)
  (zA (yo (fSh (Yy (JZ (fIs "bool" (zj 0))) (Yy (f2 (eqO false) (zj 0) (zj 1)) (f2 (eqO false) (fIs "str" (zj 0)) (fIs "str" (zj 1)))))))
  sNil))
def zJ : Nat->List D->Option Rs
 | 0=>yN ["_law_told","_law_due"] 2 (fun _=>none)
 | k + 1=>yN ["_law_told","_law_due"] 2 (xh (zJ k))
def M__law_same : List D->Option Rs:=zJ 6
def TY : FS:=(zA (tY 1 (zr M__law_names (zi (zM (zr M__law_cell (zi (zU 0) (zi (fC (.int 0)) fNil)))) (zi (fC (.int 5)) fNil))))
  (zA (yu 2 (f2 fdivD (zM (zr M__law_cell (zi (zU 0) (zi (fC (.int 1)) fNil)))) (fC (.int 512))))
  (zA (yu 3 (zM (wD (zi (fC (.str "underage")) (zi (fC (.str "unlikely")) (zi (fC (.str "nothing")) (zi (fC (.str "iffy")) (zi (fC (.str "summer")) (zi (fC (.str "leaster")) (zi (fC (.str "counts")) (zi (fC (.str "notes")) fNil)))))))))))
  (zA (sIf (fB (f2 (eqO false) (f2 modD (zj 2) (fC (.int 4))) (fC (.int 1)))) (zA (Xr 1 (fC (.int 1)) (f2 ixA (zj 3) (f2 modD (f2 fdivD (zj 2) (fC (.int 4))) (fC (.int 8)))))
  (zA (Xr 1 (fC (.int 3)) (f2 ixA (zj 3) (f2 modD (f2 fdivD (zj 2) (fC (.int 32))) (fC (.int 8)))))
  sNil)) sNil)
  (zA (yu 4 (zM (zr M__law_variables (zi (zM (zr M__law_cell (zi (zU 0) (zi (fC (.int 1)) fNil)))) fNil))))
  (zA (XU 5 (ZI (fC (.int 2)) (zH maxD (zi (fC (.int 6)) (zi (zH minD (zi (fC (.int 22)) (zi (zH lenD (zi (zj 0) fNil)) fNil))) fNil)))) (zA (fun δ=>(yu 6 (zM (zr M__law_fact (zi (zM (zr M__law_cell (zi (zU 0) (zi (zU 5) fNil)))) (zi (zU 1) fNil))))) (TH 1 δ))
  (zA (yu 7 (zM (zr M__law_words (zi (f2 addD (xZ (zi (f2 ixA (zj 6) (fC (.int 0))) fNil)) (f2 ixA (zj 6) (fC (.int 1)))) fNil))))
  (zA (yu 8 (zM (zr M_fact_text (zi (zU 6) fNil))))
  (zA (sIf (bOr (xO (fB (fIs "str" (zj 8)))) (bOr (fB (f2 (neE) (zj 8) (zj 7))) (xO (fB (zM (zr M__law_same (zi (zM (zr M_read_fact (zi (zU 7) fNil))) (zi (zU 6) fNil)))))))) (zA (yo (fSh (fC (.bl false))))
  sNil) sNil)
  (zA (fun δ=>(yu 9 (zM (zr M__law_rule (zi (zM (zr M__law_cell (zi (zU 0) (zi (zU 5) fNil)))) (zi (zU 1) (zi (zU 4) fNil)))))) (TH 1 δ))
  (zA (yu 7 (f2 addD (zM (zr M__law_words (zi (f2 addD (xZ (zi (f2 ixA (zj 9) (fC (.int 0))) fNil)) (f2 ixA (zj 9) (fC (.int 1)))) fNil))) (fC (.str " if "))))
  (zA (yu 7 (f2 addD (zj 7) (f2 uB (fC (.str ", ")) (zM (yD 1 [] 0 (v3 (f2 ixA (zj 9) (fC (.int 2)))) bYes (zM (zr M__law_literal_text (zi (zU 0) fNil))))))))
  (zA (yu 8 (zM (zr M_rule_text (zi (zU 9) fNil))))
  (zA (sIf (bOr (xO (fB (fIs "str" (zj 8)))) (bOr (fB (f2 (neE) (zj 8) (zj 7))) (xO (fB (zM (zr M__law_same (zi (zM (zr M_read_rule (zi (zU 7) fNil))) (zi (zU 9) fNil)))))))) (zA (yo (fSh (fC (.bl false))))
  sNil) sNil)
  sNil))))))))))
  (zA (yo (fSh (fC (.bl true))))
  sNil)))))))
def Vq : List D->Option Rs:=yN ["_law_script","_law_names_here","_law_cell_here","_law_some","_law_variables_here","_law_k","_law_fact_here","_law_text","_law_told","_law_rule_here"] 1 TY
end
theorem zL {k : Nat} {A : Around} (r : Room k A) : A.units + 20 < cLine:=by have:=r.un; omega
variable {P : Program} {w : World} {K : PySem.W.Frag} {mg : Str->Option Value} {base : Heap}
theorem tO : FnScope ["thing"] ["thing"] (zk (top 7)):=⟨rfl,rfl,rfl,by decide +kernel,rfl,by decide +kernel,by decide +kernel⟩
theorem ZW (T : Txt K mg)  : zx P w K mg base 1 "is_whole" ["thing"] M_is_whole:=
 zG T.d_is_whole tO (fun _ _ _ _ _ _ us hl=>match us,hl with | [_],_=>rfl) fun f cdv A outer s H E hr=>by
  have nd : (["thing"] : List Str).Nodup:=tO.nd
  have hu:=zL hr
  exact (za (zp (PD.pr (wZ (xc "int" T.t_int T.m_isinstance T.m_int boot_int (ze 0)) (wa (TD (xc "bool" T.t_bool T.m_isinstance T.m_bool boot_bool (ze 0)))))))
  zg)
theorem tP : FnScope ["sign"] ["sign"] (zk (top 8)):=⟨rfl,rfl,rfl,by decide +kernel,rfl,by decide +kernel,by decide +kernel⟩
theorem ZX (T : Txt K mg)  : zx P w K mg base 1 "is_small" ["sign"] M_is_small:=
 zG T.d_is_small tP (fun _ _ _ _ _ _ us hl=>match us,hl with | [_],_=>rfl) fun f cdv A outer s H E hr=>by
  have nd : (["sign"] : List Str).Nodup:=tP.nd
  have hu:=zL hr
  exact (za (zp (PD.pr (uK xf xf (PD.pb zw) (ze 0) (PD.pb zw))))
  zg)
theorem kP : FnScope ["sign"] ["sign"] (zk (top 9)):=⟨rfl,rfl,rfl,by decide +kernel,rfl,by decide +kernel,by decide +kernel⟩
theorem Vr (T : Txt K mg)  : zx P w K mg base 1 "is_big" ["sign"] M_is_big:=
 zG T.d_is_big kP (fun _ _ _ _ _ _ us hl=>match us,hl with | [_],_=>rfl) fun f cdv A outer s H E hr=>by
  have nd : (["sign"] : List Str).Nodup:=kP.nd
  have hu:=zL hr
  exact (za (zp (PD.pr (uK xf xf (PD.pb zw) (ze 0) (PD.pb zw))))
  zg)
theorem um : FnScope ["sign"] ["sign"] (zk (top 10)):=⟨rfl,rfl,rfl,by decide +kernel,rfl,by decide +kernel,by decide +kernel⟩
theorem kQ (T : Txt K mg)  : zx P w K mg base 1 "is_figure" ["sign"] M_is_figure:=
 zG T.d_is_figure um (fun _ _ _ _ _ _ us hl=>match us,hl with | [_],_=>rfl) fun f cdv A outer s H E hr=>by
  have nd : (["sign"] : List Str).Nodup:=um.nd
  have hu:=zL hr
  exact (za (zp (PD.pr (uK xf xf (PD.pb zw) (ze 0) (PD.pb zw))))
  zg)
theorem xV : FnScope ["thing"] ["thing"] (zk (top 11)):=⟨rfl,rfl,rfl,by decide +kernel,rfl,by decide +kernel,by decide +kernel⟩
theorem uC (T : Txt K mg)  : zx P w K mg base 1 "is_short_text" ["thing"] M_is_short_text:=
 zG T.d_is_short_text xV (fun _ _ _ _ _ _ us hl=>match us,hl with | [_],_=>rfl) fun f cdv A outer s H E hr=>by
  have nd : (["thing"] : List Str).Nodup:=xV.nd
  have hu:=zL hr
  exact (za (zp (PD.pr (wZ (xc "str" T.t_str T.m_isinstance T.m_str boot_str (ze 0)) (wa (uK xf xf (PD.pb zf) (PD.pb (zF yc T.m_len boot_len (zq (ze 0) zC))) (PD.pb (T.c_LONGEST.pd)))))))
  zg)
theorem qA : FnScope ["thing"] ["thing"] (zk (top 12)):=⟨rfl,rfl,rfl,by decide +kernel,rfl,by decide +kernel,by decide +kernel⟩
theorem XB (T : Txt K mg) (ok_is_short_text : zx P w K mg base 1 "is_short_text" ["thing"] M_is_short_text) (ok_is_small : zx P w K mg base 1 "is_small" ["sign"] M_is_small) : zx P w K mg base 2 "is_name" ["thing"] M_is_name:=
 zG T.d_is_name qA (fun _ _ _ _ _ _ us hl=>match us,hl with | [_],_=>rfl) fun f cdv A outer s H E hr=>by
  have nd : (["thing"] : List Str).Nodup:=qA.nd
  have hu:=zL hr
  exact (za (zO (PDW.pdt (yt (zQ (zI (PR.pd (zm ok_is_short_text (hr.mono (by decide)) (zb (zo 0) zh))))) (yw (zK (v6 hu) (ze 0) (PD.pb (T.c_WORDS.pd)))))) (za (zp (PD.pr x4))
  zg) zg)
  (za (zp (PD.pr (zF (qf rfl) T.m_all boot_all (zq (PD.pb (PR.pd (z6 (N:=["sign"]) (js:=[]) (i:=0) rfl (yy rfl (by decide +kernel) (by decide +kernel) rfl) (yk (zo 0)) (by decide) (by decide) rfl rfl (by decide) (fun _ _ _ _=>yj) (fun _ _ _ _=>(PR.pd (zm ok_is_small (hr.mono (by decide)) (zb (zo 0) zh))))))) zC))))
  zg))
theorem wN : FnScope ["thing"] ["thing"] (zk (top 13)):=⟨rfl,rfl,rfl,by decide +kernel,rfl,by decide +kernel,by decide +kernel⟩
theorem t6 (T : Txt K mg) (ok_is_name : zx P w K mg base 2 "is_name" ["thing"] M_is_name) (ok_is_whole : zx P w K mg base 1 "is_whole" ["thing"] M_is_whole) : zx P w K mg base 3 "is_constant" ["thing"] M_is_constant:=
 zG T.d_is_constant wN (fun _ _ _ _ _ _ us hl=>match us,hl with | [_],_=>rfl) fun f cdv A outer s H E hr=>by
  have nd : (["thing"] : List Str).Nodup:=wN.nd
  have hu:=zL hr
  exact (za (zp (PD.pr (Wv (PR.pd (zm ok_is_whole (hr.mono (by decide)) (zb (zo 0) zh))) (wa (PR.pd (zm ok_is_name (hr.mono (by decide)) (zb (zo 0) zh)))))))
  zg)
theorem wO : FnScope ["thing"] ["thing"] (zk (top 14)):=⟨rfl,rfl,rfl,by decide +kernel,rfl,by decide +kernel,by decide +kernel⟩
theorem t7 (T : Txt K mg) (ok_is_big : zx P w K mg base 1 "is_big" ["sign"] M_is_big) (ok_is_figure : zx P w K mg base 1 "is_figure" ["sign"] M_is_figure) (ok_is_short_text : zx P w K mg base 1 "is_short_text" ["thing"] M_is_short_text) (ok_is_small : zx P w K mg base 1 "is_small" ["sign"] M_is_small) : zx P w K mg base 2 "is_variable" ["thing"] M_is_variable:=
 zG T.d_is_variable wO (fun _ _ _ _ _ _ us hl=>match us,hl with | [_],_=>rfl) fun f cdv A outer s H E hr=>by
  have nd : (["thing"] : List Str).Nodup:=wO.nd
  have hu:=zL hr
  exact (za (zO (PDW.pdt (yt (zQ (zI (PR.pd (zm ok_is_short_text (hr.mono (by decide)) (zb (zo 0) zh))))) (yw (zQ (zI (PR.pd (zm ok_is_big (hr.mono (by decide)) (zb (zD (nlL (naL (by decide) _) hu) (ze 0) (PD.pb zf)) zh)))))))) (za (zp (PD.pr x4))
  zg) zg)
  (za (zp (PD.pr (zF (qf rfl) T.m_all boot_all (zq (PD.pb (PR.pd (z6 (N:=["sign"]) (js:=[]) (i:=0) rfl (yy rfl (by decide +kernel) (by decide +kernel) rfl) (yk (zo 0)) (by decide) (by decide) rfl rfl (by decide) (fun _ _ _ _=>yj) (fun _ _ _ _=>(Wv (PR.pd (zm ok_is_small (hr.mono (by decide)) (zb (zo 0) zh))) (Wv (PR.pd (zm ok_is_big (hr.mono (by decide)) (zb (zo 0) zh))) (wa (PR.pd (zm ok_is_figure (hr.mono (by decide)) (zb (zo 0) zh)))))))))) zC))))
  zg))
theorem qB : FnScope ["thing"] ["thing"] (zk (top 15)):=⟨rfl,rfl,rfl,by decide +kernel,rfl,by decide +kernel,by decide +kernel⟩
theorem XC (T : Txt K mg) (ok_is_constant : zx P w K mg base 3 "is_constant" ["thing"] M_is_constant) (ok_is_variable : zx P w K mg base 2 "is_variable" ["thing"] M_is_variable) : zx P w K mg base 4 "is_term" ["thing"] M_is_term:=
 zG T.d_is_term qB (fun _ _ _ _ _ _ us hl=>match us,hl with | [_],_=>rfl) fun f cdv A outer s H E hr=>by
  have nd : (["thing"] : List Str).Nodup:=qB.nd
  have hu:=zL hr
  exact (za (zp (PD.pr (Wv (PR.pd (zm ok_is_constant (hr.mono (by decide)) (zb (zo 0) zh))) (wa (PR.pd (zm ok_is_variable (hr.mono (by decide)) (zb (zo 0) zh)))))))
  zg)
theorem qC : FnScope ["thing","places"] ["thing"] (zk (top 16)):=⟨rfl,rfl,rfl,by decide +kernel,rfl,by decide +kernel,by decide +kernel⟩
theorem XD (T : Txt K mg) (ok_is_constant : zx P w K mg base 3 "is_constant" ["thing"] M_is_constant) (ok_is_name : zx P w K mg base 2 "is_name" ["thing"] M_is_name) : zx P w K mg base 4 "is_fact" ["thing"] M_is_fact:=
 zG T.d_is_fact qC (fun _ _ _ _ _ _ us hl=>match us,hl with | [_],_=>rfl) fun f cdv A outer s H E hr=>by
  have nd : (["thing","places"] : List Str).Nodup:=qC.nd
  have hu:=zL hr
  exact (za (zO (PDW.pdt (yt (zQ (zI (xc "tuple" T.t_tuple T.m_isinstance T.m_tuple boot_tuple (ze 0)))) (yw (zK (v7 hu) (PD.pb (zF yc T.m_len boot_len (zq (ze 0) zC))) (PD.pb zf))))) (za (zp (PD.pr x4))
  zg) zg)
  (za (zy 1 nd (zD (nlL (naL (by decide) _) hu) (ze 0) (PD.pb zf)))
  (za (zO (PDW.pdt (yt (zQ (zI (PR.pd (zm ok_is_name (hr.mono (by decide)) (zb (zD (nlL (naL (by decide) _) hu) (ze 0) (PD.pb zf)) zh))))) (yt (zQ (zI (xc "tuple" T.t_tuple T.m_isinstance T.m_tuple boot_tuple (ze 1)))) (yw (zK qU (PD.pb (zF yc T.m_len boot_len (zq (ze 1) zC))) (PD.pb (T.c_MOST_PLACES.pd))))))) (za (zp (PD.pr x4))
  zg) zg)
  (za (zp (PD.pr (zF (qf rfl) T.m_all boot_all (zq (PD.pb (PR.pd (z6 (N:=["place"]) (js:=[]) (i:=0) rfl (yy rfl (by decide +kernel) (by decide +kernel) rfl) (yk (zo 1)) (by decide) (by decide) rfl rfl (by decide) (fun _ _ _ _=>yj) (fun _ _ _ _=>(PR.pd (zm ok_is_constant (hr.mono (by decide)) (zb (zo 0) zh))))))) zC))))
  zg))))
theorem uo : FnScope ["thing"] ["thing"] (zk (top 21)):=⟨rfl,rfl,rfl,by decide +kernel,rfl,by decide +kernel,by decide +kernel⟩
theorem kS (T : Txt K mg) (ok_is_term : zx P w K mg base 4 "is_term" ["thing"] M_is_term) : zx P w K mg base 5 "are_terms" ["thing"] M_are_terms:=
 zG T.d_are_terms uo (fun _ _ _ _ _ _ us hl=>match us,hl with | [_],_=>rfl) fun f cdv A outer s H E hr=>by
  have nd : (["thing"] : List Str).Nodup:=uo.nd
  have hu:=zL hr
  exact (za (zO (PDW.pdt (yt (zQ (zI (xc "tuple" T.t_tuple T.m_isinstance T.m_tuple boot_tuple (ze 0)))) (yw (zK qU (PD.pb (zF yc T.m_len boot_len (zq (ze 0) zC))) (PD.pb (T.c_MOST_PLACES.pd)))))) (za (zp (PD.pr x4))
  zg) zg)
  (za (zp (PD.pr (zF (qf rfl) T.m_all boot_all (zq (PD.pb (PR.pd (z6 (N:=["term"]) (js:=[]) (i:=0) rfl (yy rfl (by decide +kernel) (by decide +kernel) rfl) (yk (zo 0)) (by decide) (by decide) rfl rfl (by decide) (fun _ _ _ _=>yj) (fun _ _ _ _=>(PR.pd (zm ok_is_term (hr.mono (by decide)) (zb (zo 0) zh))))))) zC))))
  zg))
theorem vx : FnScope ["thing"] ["thing"] (zk (top 22)):=⟨rfl,rfl,rfl,by decide +kernel,rfl,by decide +kernel,by decide +kernel⟩
theorem jj (T : Txt K mg) (ok_are_terms : zx P w K mg base 5 "are_terms" ["thing"] M_are_terms) (ok_is_name : zx P w K mg base 2 "is_name" ["thing"] M_is_name) (ok_is_term : zx P w K mg base 4 "is_term" ["thing"] M_is_term) : zx P w K mg base 6 "is_literal" ["thing"] M_is_literal:=
 zG T.d_is_literal vx (fun _ _ _ _ _ _ us hl=>match us,hl with | [_],_=>rfl) fun f cdv A outer s H E hr=>by
  have nd : (["thing"] : List Str).Nodup:=vx.nd
  have hu:=zL hr
  exact (za (zO (PDW.pdt (yt (zQ (zI (xc "tuple" T.t_tuple T.m_isinstance T.m_tuple boot_tuple (ze 0)))) (yt (zK (v7 hu) (PD.pb (zF yc T.m_len boot_len (zq (ze 0) zC))) (PD.pb zf)) (yw (zQ (zI (xc "str" T.t_str T.m_isinstance T.m_str boot_str (PD.pb (zD (nlL (naL (by decide) _) hu) (ze 0) (PD.pb zf)))))))))) (za (zp (PD.pr x4))
  zg) zg)
  (za (zO (zK (v6 hu) (PD.pb (zD (nlL (naL (by decide) _) hu) (ze 0) (PD.pb zf))) (PD.pb (z7 (zb zw (zb zw zh))))) (za (zp (PD.pr (wZ (PR.pd (zm ok_is_name (hr.mono (by decide)) (zb (zD (nlL (naL (by decide) _) hu) (ze 0) (PD.pb zf)) zh))) (wa (PR.pd (zm ok_are_terms (hr.mono (by decide)) (zb (zD (nlL (naL (by decide) _) hu) (ze 0) (PD.pb zf)) zh)))))))
  zg) zg)
  (za (zp (PD.pr (wZ (y8 (v6 hu) (PD.pb (zD (nlL (naL (by decide) _) hu) (ze 0) (PD.pb zf))) (PD.pb (z7 (zb zw (zb zw zh))))) (wZ (PR.pd (zm ok_is_term (hr.mono (by decide)) (zb (zD (nlL (naL (by decide) _) hu) (ze 0) (PD.pb zf)) zh))) (wa (PR.pd (zm ok_is_term (hr.mono (by decide)) (zb (zD (nlL (naL (by decide) _) hu) (ze 0) (PD.pb zf)) zh))))))))
  zg)))
theorem wQ : FnScope ["thing"] ["thing"] (zk (top 23)):=⟨rfl,rfl,rfl,by decide +kernel,rfl,by decide +kernel,by decide +kernel⟩
theorem t8 (T : Txt K mg) (ok_is_variable : zx P w K mg base 2 "is_variable" ["thing"] M_is_variable) : zx P w K mg base 3 "is_grouping" ["thing"] M_is_grouping:=
 zG T.d_is_grouping wQ (fun _ _ _ _ _ _ us hl=>match us,hl with | [_],_=>rfl) fun f cdv A outer s H E hr=>by
  have nd : (["thing"] : List Str).Nodup:=wQ.nd
  have hu:=zL hr
  exact (za (zO (PDW.pdt (yt (zQ (zI (xc "tuple" T.t_tuple T.m_isinstance T.m_tuple boot_tuple (ze 0)))) (yt (zK (W4 hu) (PD.pb (zF yc T.m_len boot_len (zq (ze 0) zC))) (PD.pb (z7 (zb zf (zb zf zh))))) (yw (zQ (zI (xc "str" T.t_str T.m_isinstance T.m_str boot_str (PD.pb (zD (nlL (naL (by decide) _) hu) (ze 0) (PD.pb zf)))))))))) (za (zp (PD.pr x4))
  zg) zg)
  (za (zO (zK (yE hu) (PD.pb (zF yc T.m_len boot_len (zq (ze 0) zC))) (PD.pb zf)) (za (zp (PD.pr (y8 (yE hu) (PD.pb (zD (nlL (naL (by decide) _) hu) (ze 0) (PD.pb zf))) (PD.pb zw))))
  zg) zg)
  (za (zp (PD.pr (wZ (y8 (v6 hu) (PD.pb (zD (nlL (naL (by decide) _) hu) (ze 0) (PD.pb zf))) (PD.pb (z7 (zb zw (zb zw zh))))) (wa (PR.pd (zm ok_is_variable (hr.mono (by decide)) (zb (zD (nlL (naL (by decide) _) hu) (ze 0) (PD.pb zf)) zh)))))))
  zg)))
theorem xy : FnScope ["thing"] ["thing"] (zk (top 24)):=⟨rfl,rfl,rfl,by decide +kernel,rfl,by decide +kernel,by decide +kernel⟩
theorem vS (T : Txt K mg) (ok_are_terms : zx P w K mg base 5 "are_terms" ["thing"] M_are_terms) (ok_is_grouping : zx P w K mg base 3 "is_grouping" ["thing"] M_is_grouping) : zx P w K mg base 6 "are_head_terms" ["thing"] M_are_head_terms:=
 zG T.d_are_head_terms xy (fun _ _ _ _ _ _ us hl=>match us,hl with | [_],_=>rfl) fun f cdv A outer s H E hr=>by
  have nd : (["thing"] : List Str).Nodup:=xy.nd
  have hu:=zL hr
  exact (za (zO (PDW.pdt (yt (zQ (zI (xc "tuple" T.t_tuple T.m_isinstance T.m_tuple boot_tuple (ze 0)))) (yw (zK qU (PD.pb (zF yc T.m_len boot_len (zq (ze 0) zC))) (PD.pb (T.c_MOST_PLACES.pd)))))) (za (zp (PD.pr x4))
  zg) zg)
  (za (zO (PDW.pdt (QK (zK qU (PD.pb (zF yc T.m_len boot_len (zq (ze 0) zC))) (PD.pb zf)) (Uw (zI (PR.pd (zm ok_is_grouping (hr.mono (by decide)) (zb (zD (nlL (naL (by decide) _) hu) (ze 0) (PD.pb (xq zf))) zh))))))) (za (zp (zm ok_are_terms (hr.mono (by decide)) (zb (PR.pd (yC (ze 0) z5 (zN (xq zf)))) zh)))
  zg) zg)
  (za (zp (zm ok_are_terms (hr.mono (by decide)) (zb (zo 0) zh)))
  zg)))
theorem qD : FnScope ["thing"] ["thing"] (zk (top 25)):=⟨rfl,rfl,rfl,by decide +kernel,rfl,by decide +kernel,by decide +kernel⟩
theorem XE (T : Txt K mg) (ok_is_literal : zx P w K mg base 6 "is_literal" ["thing"] M_is_literal) : zx P w K mg base 7 "is_body" ["thing"] M_is_body:=
 zG T.d_is_body qD (fun _ _ _ _ _ _ us hl=>match us,hl with | [_],_=>rfl) fun f cdv A outer s H E hr=>by
  have nd : (["thing"] : List Str).Nodup:=qD.nd
  have hu:=zL hr
  exact (za (zO (PDW.pdt (yt (zQ (zI (xc "tuple" T.t_tuple T.m_isinstance T.m_tuple boot_tuple (ze 0)))) (yw (zQ (j3 xf xf (PD.pb zf) (PD.pb (zF yc T.m_len boot_len (zq (ze 0) zC))) (PD.pb (T.c_MOST_LITERALS.pd))))))) (za (zp (PD.pr x4))
  zg) zg)
  (za (zO (zQ (zI (zF (qf rfl) T.m_all boot_all (zq (PD.pb (PR.pd (z6 (N:=["literal"]) (js:=[]) (i:=0) rfl (yy rfl (by decide +kernel) (by decide +kernel) rfl) (yk (zo 0)) (by decide) (by decide) rfl rfl (by decide) (fun _ _ _ _=>yj) (fun _ _ _ _=>(PR.pd (zm ok_is_literal (hr.mono (by decide)) (zb (zo 0) zh))))))) zC)))) (za (zp (PD.pr x4))
  zg) zg)
  (za (zp (PD.pr (y8 xf (PD.pb (zF yc T.m_len boot_len (zq (PD.pb (PR.pd (z6 (N:=["literal"]) (js:=[]) (i:=0) rfl (yy rfl (by decide +kernel) (by decide +kernel) rfl) (yk (zo 0)) (by decide) (by decide) rfl rfl (by decide) (fun _ _ _ _=>vf (zK (yE hu) (PD.pb (zD (nlL (naL (by decide) _) hu) (ze 0) (PD.pb zf))) (PD.pb zw))) (fun _ _ _ _=>(zo 0))))) zC))) (PD.pb (T.c_MOST_YES.pd)))))
  zg)))
theorem xW : FnScope ["literal"] ["literal"] (zk (top 28)):=⟨rfl,rfl,rfl,by decide +kernel,rfl,by decide +kernel,by decide +kernel⟩
theorem uD (T : Txt K mg)  : zx P w K mg base 1 "has_predicate" ["literal"] M_has_predicate:=
 zG T.d_has_predicate xW (fun _ _ _ _ _ _ us hl=>match us,hl with | [_],_=>rfl) fun f cdv A outer s H E hr=>by
  have nd : (["literal"] : List Str).Nodup:=xW.nd
  have hu:=zL hr
  exact (za (zp (PD.pr (y8 (v6 hu) (PD.pb (zD (nlL (naL (by decide) _) hu) (ze 0) (PD.pb zf))) (PD.pb (z7 (zb zw (zb zw zh)))))))
  zg)
theorem yX : FnScope ["literal","terms"] ["literal"] (zk (top 29)):=⟨rfl,rfl,rfl,by decide +kernel,rfl,by decide +kernel,by decide +kernel⟩
theorem wG (T : Txt K mg) (ok_has_predicate : zx P w K mg base 1 "has_predicate" ["literal"] M_has_predicate) (ok_is_variable : zx P w K mg base 2 "is_variable" ["thing"] M_is_variable) : zx P w K mg base 3 "literal_variables" ["literal"] M_literal_variables:=
 zG T.d_literal_variables yX (fun _ _ _ _ _ _ us hl=>match us,hl with | [_],_=>rfl) fun f cdv A outer s H E hr=>by
  have nd : (["literal","terms"] : List Str).Nodup:=yX.nd
  have hu:=zL hr
  exact (za (zy 1 nd (Xk (zI (PR.pd (zm ok_has_predicate (hr.mono (by decide)) (zb (zo 0) zh)))) (zD (nlL (naL (by decide) _) hu) (ze 0) (PD.pb zf)) (PR.pd (yC (ze 0) (zN zf) z5))))
  (za (zp (z6 (N:=["term"]) (js:=[]) (i:=0) rfl (yy rfl (by decide +kernel) (by decide +kernel) rfl) (yk (zo 1)) (by decide) (by decide) rfl rfl (by decide) (fun _ _ _ _=>vf (zI (PR.pd (zm ok_is_variable (hr.mono (by decide)) (zb (zo 0) zh))))) (fun _ _ _ _=>(zo 0))))
  zg))
theorem xz : FnScope ["body","found","literal"] ["body"] (zk (top 31)):=⟨rfl,rfl,rfl,by decide +kernel,rfl,by decide +kernel,by decide +kernel⟩
theorem vT (T : Txt K mg) (ok_literal_variables : zx P w K mg base 3 "literal_variables" ["literal"] M_literal_variables) : zx P w K mg base 4 "body_variables" ["body"] M_body_variables:=
 zG T.d_body_variables xz (fun _ _ _ _ _ _ us hl=>match us,hl with | [_],_=>rfl) fun f cdv A outer s H E hr=>by
  have nd : (["body","found","literal"] : List Str).Nodup:=xz.nd
  have hu:=zL hr
  exact (za (ww 1 nd (xP zh))
  (za (wc 2 nd rfl PassesOwn.never (yk (zo 0)) (za (Q7 1 (zm ok_literal_variables (hr.mono (by decide)) (zb (zo 2) zh)))
  zg))
  (za (zp (qt rfl T.m_sorted T.m_set (ze 1)))
  zg)))
theorem tQ : FnScope ["rule"] ["rule"] (zk (top 27)):=⟨rfl,rfl,rfl,by decide +kernel,rfl,by decide +kernel,by decide +kernel⟩
theorem ZY (T : Txt K mg)  : zx P w K mg base 1 "is_group" ["rule"] M_is_group:=
 zG T.d_is_group tQ (fun _ _ _ _ _ _ us hl=>match us,hl with | [_],_=>rfl) fun f cdv A outer s H E hr=>by
  have nd : (["rule"] : List Str).Nodup:=tQ.nd
  have hu:=zL hr
  exact (za (zp (PD.pr (wZ (y8 qU (PD.pb (zF yc T.m_len boot_len (zq (PD.pb (zD (nlL (naL (by decide) _) hu) (ze 0) (PD.pb zf))) zC))) (PD.pb zf)) (wa (xc "tuple" T.t_tuple T.m_isinstance T.m_tuple boot_tuple (PD.pb (zD (nlL (naL (by decide) _) hu) (PD.pb (zD (nlL (naL (by decide) _) hu) (ze 0) (PD.pb zf))) (PD.pb (xq zf)))))))))
  zg)
theorem xA : FnScope ["rule","terms"] ["rule"] (zk (top 30)):=⟨rfl,rfl,rfl,by decide +kernel,rfl,by decide +kernel,by decide +kernel⟩
theorem vU (T : Txt K mg) (ok_is_group : zx P w K mg base 1 "is_group" ["rule"] M_is_group) (ok_is_variable : zx P w K mg base 2 "is_variable" ["thing"] M_is_variable) : zx P w K mg base 3 "head_variables" ["rule"] M_head_variables:=
 zG T.d_head_variables xA (fun _ _ _ _ _ _ us hl=>match us,hl with | [_],_=>rfl) fun f cdv A outer s H E hr=>by
  have nd : (["rule","terms"] : List Str).Nodup:=xA.nd
  have hu:=zL hr
  exact (za (zy 1 nd (Xk (zI (PR.pd (zm ok_is_group (hr.mono (by decide)) (zb (zo 0) zh)))) (zu zS (PD.pb (PR.pd (yC (PD.pb (zD (nlL (naL (by decide) _) hu) (ze 0) (PD.pb zf))) z5 (zN (xq zf))))) (PD.pb (PR.pd (yC (PD.pb (zD (nlL (naL (by decide) _) hu) (PD.pb (zD (nlL (naL (by decide) _) hu) (ze 0) (PD.pb zf))) (PD.pb (xq zf)))) (zN zf) z5)))) (zD (nlL (naL (by decide) _) hu) (ze 0) (PD.pb zf))))
  (za (zp (z6 (N:=["term"]) (js:=[]) (i:=0) rfl (yy rfl (by decide +kernel) (by decide +kernel) rfl) (yk (zo 1)) (by decide) (by decide) rfl rfl (by decide) (fun _ _ _ _=>vf (zI (PR.pd (zm ok_is_variable (hr.mono (by decide)) (zb (zo 0) zh))))) (fun _ _ _ _=>(zo 0))))
  zg))
theorem xB : FnScope ["rule"] ["rule"] (zk (top 32)):=⟨rfl,rfl,rfl,by decide +kernel,rfl,by decide +kernel,by decide +kernel⟩
theorem vV (T : Txt K mg) (ok_body_variables : zx P w K mg base 4 "body_variables" ["body"] M_body_variables) (ok_head_variables : zx P w K mg base 3 "head_variables" ["rule"] M_head_variables) : zx P w K mg base 5 "rule_variables" ["rule"] M_rule_variables:=
 zG T.d_rule_variables xB (fun _ _ _ _ _ _ us hl=>match us,hl with | [_],_=>rfl) fun f cdv A outer s H E hr=>by
  have nd : (["rule"] : List Str).Nodup:=xB.nd
  have hu:=zL hr
  exact (za (zp (qt rfl T.m_sorted T.m_set (PD.pb (zu zS (PD.pb (PR.pd (zm ok_head_variables (hr.mono (by decide)) (zb (zo 0) zh)))) (PD.pb (PR.pd (zm ok_body_variables (hr.mono (by decide)) (zb (zD (nlL (naL (by decide) _) hu) (ze 0) (PD.pb zf)) zh))))))))
  zg)
theorem qE : FnScope ["thing"] ["thing"] (zk (top 26)):=⟨rfl,rfl,rfl,by decide +kernel,rfl,by decide +kernel,by decide +kernel⟩
theorem XF (T : Txt K mg) (ok_are_head_terms : zx P w K mg base 6 "are_head_terms" ["thing"] M_are_head_terms) (ok_is_body : zx P w K mg base 7 "is_body" ["thing"] M_is_body) (ok_is_name : zx P w K mg base 2 "is_name" ["thing"] M_is_name) (ok_rule_variables : zx P w K mg base 5 "rule_variables" ["rule"] M_rule_variables) : zx P w K mg base 8 "is_rule" ["thing"] M_is_rule:=
 zG T.d_is_rule qE (fun _ _ _ _ _ _ us hl=>match us,hl with | [_],_=>rfl) fun f cdv A outer s H E hr=>by
  have nd : (["thing"] : List Str).Nodup:=qE.nd
  have hu:=zL hr
  exact (za (zO (PDW.pdt (yt (zQ (zI (xc "tuple" T.t_tuple T.m_isinstance T.m_tuple boot_tuple (ze 0)))) (yw (zK (v7 hu) (PD.pb (zF yc T.m_len boot_len (zq (ze 0) zC))) (PD.pb zf))))) (za (zp (PD.pr x4))
  zg) zg)
  (za (zO (PDW.pdt (yt (zQ (zI (PR.pd (zm ok_is_name (hr.mono (by decide)) (zb (zD (nlL (naL (by decide) _) hu) (ze 0) (PD.pb zf)) zh))))) (yt (zQ (zI (PR.pd (zm ok_are_head_terms (hr.mono (by decide)) (zb (zD (nlL (naL (by decide) _) hu) (ze 0) (PD.pb zf)) zh))))) (yw (zQ (zI (PR.pd (zm ok_is_body (hr.mono (by decide)) (zb (zD (nlL (naL (by decide) _) hu) (ze 0) (PD.pb zf)) zh))))))))) (za (zp (PD.pr x4))
  zg) zg)
  (za (zp (PD.pr (y8 xf (PD.pb (zF yc T.m_len boot_len (zq (PD.pb (PR.pd (zm ok_rule_variables (hr.mono (by decide)) (zb (zo 0) zh)))) zC))) (PD.pb (T.c_MOST_VARIABLES.pd)))))
  zg)))
theorem vy : FnScope ["words"] ["words"] (zk (top 35)):=⟨rfl,rfl,rfl,by decide +kernel,rfl,by decide +kernel,by decide +kernel⟩
theorem jk (T : Txt K mg)  : zx P w K mg base 1 "words_text" ["words"] M_words_text:=
 zG T.d_words_text vy (fun _ _ _ _ _ _ us hl=>match us,hl with | [_],_=>rfl) fun f cdv A outer s H E hr=>by
  have nd : (["words"] : List Str).Nodup:=vy.nd
  have hu:=zL hr
  exact (za (zp (PD.pr (tp zw (PD.pb (PR.pd (z6 (N:=["word"]) (js:=[]) (i:=0) rfl (yy rfl (by decide +kernel) (by decide +kernel) rfl) (yk (zo 0)) (by decide) (by decide) rfl rfl (by decide) (fun _ _ _ _=>yj) (fun _ _ _ _=>(yq Vo T.m_str boot_str (zq (ze 0) zC)))))))))
  zg)
theorem up : FnScope ["fact"] ["fact"] (zk (top 36)):=⟨rfl,rfl,rfl,by decide +kernel,rfl,by decide +kernel,by decide +kernel⟩
theorem kT (T : Txt K mg) (ok_words_text : zx P w K mg base 1 "words_text" ["words"] M_words_text) : zx P w K mg base 2 "fact_text" ["fact"] M_fact_text:=
 zG T.d_fact_text up (fun _ _ _ _ _ _ us hl=>match us,hl with | [_],_=>rfl) fun f cdv A outer s H E hr=>by
  have nd : (["fact"] : List Str).Nodup:=up.nd
  have hu:=zL hr
  exact (za (zp (zm ok_words_text (hr.mono (by decide)) (zb (zu zS (PD.pb (z7 (zb (zD (nlL (naL (by decide) _) hu) (ze 0) (PD.pb zf)) zh))) (PD.pb (zD (nlL (naL (by decide) _) hu) (ze 0) (PD.pb zf)))) zh)))
  zg)
theorem vz : FnScope ["rule","terms"] ["rule"] (zk (top 37)):=⟨rfl,rfl,rfl,by decide +kernel,rfl,by decide +kernel,by decide +kernel⟩
theorem jl (T : Txt K mg) (ok_is_group : zx P w K mg base 1 "is_group" ["rule"] M_is_group) : zx P w K mg base 2 "head_words" ["rule"] M_head_words:=
 zG T.d_head_words vz (fun _ _ _ _ _ _ us hl=>match us,hl with | [_],_=>rfl) fun f cdv A outer s H E hr=>by
  have nd : (["rule","terms"] : List Str).Nodup:=vz.nd
  have hu:=zL hr
  exact (za (zy 1 nd (Xk (zI (PR.pd (zm ok_is_group (hr.mono (by decide)) (zb (zo 0) zh)))) (zu zS (PD.pb (PR.pd (yC (PD.pb (zD (nlL (naL (by decide) _) hu) (ze 0) (PD.pb zf))) z5 (zN (xq zf))))) (PD.pb (zD (nlL (naL (by decide) _) hu) (PD.pb (zD (nlL (naL (by decide) _) hu) (ze 0) (PD.pb zf))) (PD.pb (xq zf))))) (zD (nlL (naL (by decide) _) hu) (ze 0) (PD.pb zf))))
  (za (zp (PD.pr (zu zS (PD.pb (z7 (zb (zD (nlL (naL (by decide) _) hu) (ze 0) (PD.pb zf)) zh))) (ze 1))))
  zg))
theorem xX : FnScope ["literal","words"] ["literal"] (zk (top 38)):=⟨rfl,rfl,rfl,by decide +kernel,rfl,by decide +kernel,by decide +kernel⟩
theorem uE (T : Txt K mg) (ok_has_predicate : zx P w K mg base 1 "has_predicate" ["literal"] M_has_predicate) : zx P w K mg base 2 "literal_words" ["literal"] M_literal_words:=
 zG T.d_literal_words xX (fun _ _ _ _ _ _ us hl=>match us,hl with | [_],_=>rfl) fun f cdv A outer s H E hr=>by
  have nd : (["literal","words"] : List Str).Nodup:=xX.nd
  have hu:=zL hr
  exact (za (zO (zQ (zI (PR.pd (zm ok_has_predicate (hr.mono (by decide)) (zb (zo 0) zh))))) (za (wv 0)
  zg) zg)
  (za (zy 1 nd (zu zS (PD.pb (z7 (zb (zD (nlL (naL (by decide) _) hu) (ze 0) (PD.pb zf)) zh))) (PD.pb (zD (nlL (naL (by decide) _) hu) (ze 0) (PD.pb zf)))))
  (za (zp (PD.pr (Xk (zK (yE hu) (PD.pb (zD (nlL (naL (by decide) _) hu) (ze 0) (PD.pb zf))) (PD.pb zw)) (zo 1) (zu zS (PD.pb (z7 (zb zw zh))) (ze 1)))))
  zg)))
theorem uq : FnScope ["rule","head","body"] ["rule"] (zk (top 39)):=⟨rfl,rfl,rfl,by decide +kernel,rfl,by decide +kernel,by decide +kernel⟩
theorem kU (T : Txt K mg) (ok_head_words : zx P w K mg base 2 "head_words" ["rule"] M_head_words) (ok_literal_words : zx P w K mg base 2 "literal_words" ["literal"] M_literal_words) (ok_words_text : zx P w K mg base 1 "words_text" ["words"] M_words_text) : zx P w K mg base 3 "rule_text" ["rule"] M_rule_text:=
 zG T.d_rule_text uq (fun _ _ _ _ _ _ us hl=>match us,hl with | [_],_=>rfl) fun f cdv A outer s H E hr=>by
  have nd : (["rule","head","body"] : List Str).Nodup:=uq.nd
  have hu:=zL hr
  exact (za (zy 1 nd (PR.pd (zm ok_words_text (hr.mono (by decide)) (zb (PR.pd (zm ok_head_words (hr.mono (by decide)) (zb (zo 0) zh))) zh))))
  (za (zy 2 nd (tp zw (PD.pb (PR.pd (z6 (N:=["literal"]) (js:=[]) (i:=0) rfl (yy rfl (by decide +kernel) (by decide +kernel) rfl) (yk (zD (nlL (naL (by decide) _) hu) (ze 0) (PD.pb zf))) (by decide) (by decide) rfl rfl (by decide) (fun _ _ _ _=>yj) (fun _ _ _ _=>(PR.pd (zm ok_words_text (hr.mono (by decide)) (zb (PR.pd (zm ok_literal_words (hr.mono (by decide)) (zb (zo 0) zh))) zh)))))))))
  (za (zp (PD.pr (Jn (zo 1) (zo 2))))
  zg)))
theorem vA : FnScope ["word","figures"] ["word"] (zk (top 40)):=⟨rfl,rfl,rfl,by decide +kernel,rfl,by decide +kernel,by decide +kernel⟩
theorem jm (T : Txt K mg) (ok_is_figure : zx P w K mg base 1 "is_figure" ["sign"] M_is_figure) : zx P w K mg base 2 "is_numeral" ["word"] M_is_numeral:=
 zG T.d_is_numeral vA (fun _ _ _ _ _ _ us hl=>match us,hl with | [_],_=>rfl) fun f cdv A outer s H E hr=>by
  have nd : (["word","figures"] : List Str).Nodup:=vA.nd
  have hu:=zL hr
  exact (za (zy 1 nd (Xk (zI (Vi (zo 0) zw)) (TW (ze 0) (zN zf) z5) (zo 0)))
  (za (zO (PDW.pdt (yt (zQ (j3 xf xf (PD.pb zf) (PD.pb (zF yc T.m_len boot_len (zq (ze 1) zC))) (PD.pb (T.c_MOST_FIGURES.pd)))) (yw (zQ (zI (zF (qf rfl) T.m_all boot_all (zq (PD.pb (PR.pd (z6 (N:=["sign"]) (js:=[]) (i:=0) rfl (yy rfl (by decide +kernel) (by decide +kernel) rfl) (yk (zo 1)) (by decide) (by decide) rfl rfl (by decide) (fun _ _ _ _=>yj) (fun _ _ _ _=>(PR.pd (zm ok_is_figure (hr.mono (by decide)) (zb (zo 0) zh))))))) zC))))))) (za (zp (PD.pr x4))
  zg) zg)
  (za (zp (PD.pr (Wv (y8 (v7 hu) (PD.pb (zD (nlL (naL (by decide) _) hu) (ze 1) (PD.pb zf))) (PD.pb zw)) (wa (y8 (yE hu) (ze 0) (PD.pb zw))))))
  zg)))
theorem vB : FnScope ["words"] ["words"] (zk (top 41)):=⟨rfl,rfl,rfl,by decide +kernel,rfl,by decide +kernel,by decide +kernel⟩
theorem jn (T : Txt K mg) (ok_is_numeral : zx P w K mg base 2 "is_numeral" ["word"] M_is_numeral) : zx P w K mg base 3 "read_terms" ["words"] M_read_terms:=
 zG T.d_read_terms vB (fun _ _ _ _ _ _ us hl=>match us,hl with | [_],_=>rfl) fun f cdv A outer s H E hr=>by
  have nd : (["words"] : List Str).Nodup:=vB.nd
  have hu:=zL hr
  exact (za (zp (PD.pr (yq wu T.m_tuple boot_tuple (zq (PD.pb (PR.pd (z6 (N:=["word"]) (js:=[]) (i:=0) rfl (yy rfl (by decide +kernel) (by decide +kernel) rfl) (yk (zo 0)) (by decide) (by decide) rfl rfl (by decide) (fun _ _ _ _=>yj) (fun _ _ _ _=>(Xk (zI (PR.pd (zm ok_is_numeral (hr.mono (by decide)) (zb (zo 0) zh)))) (yq Jk T.m_int boot_int (zq (ze 0) zC)) (zo 0)))))) zC))))
  zg)
theorem ur : FnScope ["text","words","fact"] ["text"] (zk (top 42)):=⟨rfl,rfl,rfl,by decide +kernel,rfl,by decide +kernel,by decide +kernel⟩
theorem kW (T : Txt K mg) (ok_is_fact : zx P w K mg base 4 "is_fact" ["thing"] M_is_fact) (ok_read_terms : zx P w K mg base 3 "read_terms" ["words"] M_read_terms) : zx P w K mg base 5 "read_fact" ["text"] M_read_fact:=
 zG T.d_read_fact ur (fun _ _ _ _ _ _ us hl=>match us,hl with | [_],_=>rfl) fun f cdv A outer s H E hr=>by
  have nd : (["text","words","fact"] : List Str).Nodup:=ur.nd
  have hu:=zL hr
  exact (za (zy 1 nd (PR.pd (uR (zo 0) zw)))
  (za (zy 2 nd (z7 (zb (zD (nlL (naL (by decide) _) hu) (ze 1) (PD.pb zf)) (zb (PR.pd (zm ok_read_terms (hr.mono (by decide)) (zb (PR.pd (yC (ze 1) (zN zf) z5)) zh))) zh))))
  (za (zO (zQ (zI (PR.pd (zm ok_is_fact (hr.mono (by decide)) (zb (zo 2) zh))))) (za (kD T.x_0 (zb zw zh))
  zg) zg)
  (za (wv 2)
  zg))))
theorem wo : FnScope ["text","words"] ["text"] (zk (top 43)):=⟨rfl,rfl,rfl,by decide +kernel,rfl,by decide +kernel,by decide +kernel⟩
theorem tR (T : Txt K mg) (ok_read_terms : zx P w K mg base 3 "read_terms" ["words"] M_read_terms) : zx P w K mg base 4 "read_literal" ["text"] M_read_literal:=
 zG T.d_read_literal wo (fun _ _ _ _ _ _ us hl=>match us,hl with | [_],_=>rfl) fun f cdv A outer s H E hr=>by
  have nd : (["text","words"] : List Str).Nodup:=wo.nd
  have hu:=zL hr
  exact (za (zy 1 nd (PR.pd (uR (zo 0) zw)))
  (za (zO (zK (v6 hu) (PD.pb (zD (nlL (naL (by decide) _) hu) (ze 1) (PD.pb zf))) (PD.pb (z7 (zb zw (zb zw zh))))) (za (zp (PD.pr (zu zS (PD.pb (z7 (zb (zD (nlL (naL (by decide) _) hu) (ze 1) (PD.pb zf)) zh))) (PD.pb (PR.pd (zm ok_read_terms (hr.mono (by decide)) (zb (PR.pd (yC (ze 1) (zN zf) z5)) zh)))))))
  zg) zg)
  (za (zO (zK (v7 hu) (PD.pb (zD (nlL (naL (by decide) _) hu) (ze 1) (PD.pb zf))) (PD.pb zw)) (za (zp (PD.pr (z7 (zb zw (zb (zD (nlL (naL (by decide) _) hu) (ze 1) (PD.pb zf)) (zb (PR.pd (zm ok_read_terms (hr.mono (by decide)) (zb (PR.pd (yC (ze 1) (zN zf) z5)) zh))) zh))))))
  zg) zg)
  (za (zp (PD.pr (z7 (zb zw (zb (tp zw (PD.pb (PR.pd (yC (ze 1) (zN zf) (zN zf))))) (zb (PR.pd (zm ok_read_terms (hr.mono (by decide)) (zb (PR.pd (yC (ze 1) (zN zf) z5)) zh))) zh))))))
  zg))))
theorem xi : FnScope ["words"] ["words"] (zk (top 44)):=⟨rfl,rfl,rfl,by decide +kernel,rfl,by decide +kernel,by decide +kernel⟩
theorem vC (T : Txt K mg) (ok_read_terms : zx P w K mg base 3 "read_terms" ["words"] M_read_terms) : zx P w K mg base 4 "read_head_terms" ["words"] M_read_head_terms:=
 zG T.d_read_head_terms xi (fun _ _ _ _ _ _ us hl=>match us,hl with | [_],_=>rfl) fun f cdv A outer s H E hr=>by
  have nd : (["words"] : List Str).Nodup:=xi.nd
  have hu:=zL hr
  exact (za (zO (zK (yE hu) (PD.pb (PR.pd (yC (ze 0) (zN (xq zf)) z5))) (PD.pb (PR.pd (xP (zb zw zh))))) (za (zp (PD.pr (zu zS (PD.pb (PR.pd (zm ok_read_terms (hr.mono (by decide)) (zb (PR.pd (yC (ze 0) z5 (zN (xq zf)))) zh)))) (PD.pb (z7 (zb (z7 (zb zw zh)) zh))))))
  zg) zg)
  (za (zO (zK (v6 hu) (PD.pb (PR.pd (yC (ze 0) (zN (xq zf)) (zN (xq zf))))) (PD.pb (z7 (zb (PR.pd (xP (zb zw zh))) (zb (PR.pd (xP (zb zw zh))) zh))))) (za (zp (PD.pr (zu zS (PD.pb (PR.pd (zm ok_read_terms (hr.mono (by decide)) (zb (PR.pd (yC (ze 0) z5 (zN (xq zf)))) zh)))) (PD.pb (z7 (zb (yq wu T.m_tuple boot_tuple (zq (PD.pb (PR.pd (yC (ze 0) (zN (xq zf)) z5))) zC)) zh))))))
  zg) zg)
  (za (zp (zm ok_read_terms (hr.mono (by decide)) (zb (zo 0) zh)))
  zg)))
theorem ut : FnScope ["text","parts","head","body","rule"] ["text"] (zk (top 45)):=⟨rfl,rfl,rfl,by decide +kernel,rfl,by decide +kernel,by decide +kernel⟩
theorem kX (T : Txt K mg) (ok_is_rule : zx P w K mg base 8 "is_rule" ["thing"] M_is_rule) (ok_read_head_terms : zx P w K mg base 4 "read_head_terms" ["words"] M_read_head_terms) (ok_read_literal : zx P w K mg base 4 "read_literal" ["text"] M_read_literal) : zx P w K mg base 9 "read_rule" ["text"] M_read_rule:=
 zG T.d_read_rule ut (fun _ _ _ _ _ _ us hl=>match us,hl with | [_],_=>rfl) fun f cdv A outer s H E hr=>by
  have nd : (["text","parts","head","body","rule"] : List Str).Nodup:=ut.nd
  have hu:=zL hr
  exact (za (zy 1 nd (Ji (zo 0) zw))
  (za (zy 2 nd (PR.pd (uR (zD (nlL (naL (by decide) _) hu) (ze 1) (PD.pb zf)) zw)))
  (za (UI 3 (N:=["literal"]) (js:=[]) (i:=0) nd rfl (yy rfl (by decide +kernel) (by decide +kernel) rfl) (yk (PR.pd (uR (zD (nlL (naL (by decide) _) hu) (ze 1) (PD.pb zf)) zw))) (by decide) (by decide) rfl rfl (by decide) (fun _ _ _ _=>yj) (fun _ _ _ _=>(PR.pd (zm ok_read_literal (hr.mono (by decide)) (zb (zo 0) zh)))))
  (za (zy 4 nd (z7 (zb (zD (nlL (naL (by decide) _) hu) (ze 2) (PD.pb zf)) (zb (PR.pd (zm ok_read_head_terms (hr.mono (by decide)) (zb (PR.pd (yC (ze 2) (zN zf) z5)) zh))) (zb (yq wu T.m_tuple boot_tuple (zq (ze 3) zC)) zh)))))
  (za (zO (zQ (zI (PR.pd (zm ok_is_rule (hr.mono (by decide)) (zb (zo 4) zh))))) (za (kD T.x_0 (zb zw zh))
  zg) zg)
  (za (wv 4)
  zg))))))
theorem uu : FnScope ["_law_script","_law_k","_law_number"] ["_law_script","_law_k"] (zk (top 47)):=⟨rfl,rfl,rfl,by decide +kernel,rfl,by decide +kernel,by decide +kernel⟩
theorem kY (T : Txt K mg)  : zx P w K mg base 1 "_law_cell" ["_law_script","_law_k"] M__law_cell:=
 zG T.d__law_cell uu (fun _ _ _ _ _ _ us hl=>match us,hl with | [_,_],_=>rfl) fun f cdv A outer s H E hr=>by
  have nd : (["_law_script","_law_k","_law_number"] : List Str).Nodup:=uu.nd
  have hu:=zL hr
  exact (za (zO (zK (W9 hu) (ze 1) (PD.pb (zF yc T.m_len boot_len (zq (ze 0) zC)))) (za (zp (PD.pr (zD (nlL (naL (by decide) _) hu) (ze 0) (ze 1))))
  zg) zg)
  (za (zy 2 nd (zu zS (PD.pb (zu yS (ze 1) (PD.pb zf))) (PD.pb zf)))
  (za (zO (zK qU (PD.pb (zF yc T.m_len boot_len (zq (ze 0) zC))) (PD.pb zf)) (za (zy 2 nd (zu zV (PD.pb (zu zS (PD.pb (zu yS (PD.pb (zD (nlL (naL (by decide) _) hu) (ze 0) (PD.pb (zu zV (PD.pb (zu yS (ze 1) (PD.pb zf))) (PD.pb (zF yc T.m_len boot_len (zq (ze 0) zC))))))) (PD.pb zf))) (PD.pb (zu yS (ze 1) (PD.pb zf))))) (PD.pb zf)))
  zg) zg)
  (za (zp (PD.pr (zu zV (PD.pb (zu yS (ze 2) (ze 2))) (PD.pb zf))))
  zg))))
theorem wR : FnScope ["_law_cell_here","_law_many","_law_xs","_law_number","_law_k"] ["_law_cell_here","_law_many"] (zk (top 48)):=⟨rfl,rfl,rfl,by decide +kernel,rfl,by decide +kernel,by decide +kernel⟩
theorem t9 (T : Txt K mg)  : zx P w K mg base 1 "_law_stream" ["_law_cell_here","_law_many"] M__law_stream:=
 zG T.d__law_stream wR (fun _ _ _ _ _ _ us hl=>match us,hl with | [_,_],_=>rfl) fun f cdv A outer s H E hr=>by
  have nd : (["_law_cell_here","_law_many","_law_xs","_law_number","_law_k"] : List Str).Nodup:=wR.nd
  have hu:=zL hr
  exact (za (ww 2 nd (xP zh))
  (za (zy 3 nd (zu yx (ze 0) (PD.pb zf)))
  (za (wc 4 nd rfl PassesOwn.never (y9 T.m_range (zo 1)) (za (zO (zK (yE hu) (PD.pb (zu zV (ze 0) (PD.pb zf))) (PD.pb zf)) (za (qW 2 (zu zV (ze 3) (PD.pb (zu j4 (PD.pb zf) (PD.pb zf)))))
  (za (zy 3 nd (zu yx (ze 3) (PD.pb (zu j4 (PD.pb zf) (PD.pb zf)))))
  zg)) (za (zy 3 nd (zu zV (PD.pb (zu zS (PD.pb (zu yS (ze 3) (PD.pb zf))) (PD.pb zf))) (PD.pb zf)))
  (za (qW 2 (zu zV (PD.pb (zu yS (ze 3) (PD.pb zf))) (PD.pb zf)))
  zg)))
  zg))
  (za (wv 2)
  zg))))
theorem vD : FnScope ["_law_cell_here","_law_many","_law_some","_law_size","_law_at","_law_base","_law_names_here","_law_k","_law_name"] ["_law_cell_here","_law_many"] (zk (top 49)):=⟨rfl,rfl,rfl,by decide +kernel,rfl,by decide +kernel,by decide +kernel⟩
theorem jo (T : Txt K mg) (ok__law_stream : zx P w K mg base 1 "_law_stream" ["_law_cell_here","_law_many"] M__law_stream) : zx P w K mg base 2 "_law_names" ["_law_cell_here","_law_many"] M__law_names:=
 zG T.d__law_names vD (fun _ _ _ _ _ _ us hl=>match us,hl with | [_,_],_=>rfl) fun f cdv A outer s H E hr=>by
  have nd : (["_law_cell_here","_law_many","_law_some","_law_size","_law_at","_law_base","_law_names_here","_law_k","_law_name"] : List Str).Nodup:=vD.nd
  have hu:=zL hr
  exact (za (zy 2 nd zw)
  (za (zy 3 nd (zu zS (PD.pb zf) (PD.pb (zu zV (ze 0) (PD.pb zf)))))
  (za (zy 4 nd (zu zV (PD.pb (zu yx (ze 0) (PD.pb zf))) (ze 3)))
  (za (zy 5 nd (PR.pd (z6 (N:=["_law_x"]) (js:=[]) (i:=0) rfl (yy rfl (by decide +kernel) (by decide +kernel) rfl) (yk (PR.pd (zm ok__law_stream (hr.mono (by decide)) (zb (zu yx (ze 0) (PD.pb zf)) (zb zf zh))))) (by decide) (by decide) rfl rfl (by decide) (fun _ _ _ _=>yj) (fun _ _ _ _=>(zu zV (ze 0) (PD.pb zf))))))
  (za (ww 6 nd (xP zh))
  (za (wc 7 nd rfl PassesOwn.never (y9 T.m_range (zo 1)) (za (zy 8 nd (tp zw (PD.pb (PR.pd (z6 (N:=["_law_j","_law_some","_law_at","_law_base","_law_k"]) (js:=[2,4,5,7]) (i:=0) rfl (tf (sn:=(zk (top 49)).names) rfl rfl (by decide +kernel) rfl (by decide +kernel) (by decide +kernel) rfl (by intro k j x e1 e2; rcases k with _ | _ | _ | _ | k <;> first | (cases e1; cases e2; exact ⟨rfl,(by first | exact Or.inl rfl | exact Or.inr rfl),(by first | exact Or.inl rfl | exact Or.inr (Or.inl rfl) | exact Or.inr (Or.inr rfl)),(by first | exact Or.inl rfl | exact Or.inr rfl)⟩) | (simp at e1))) (y9 T.m_range (zo 3)) (by decide) (by decide) rfl rfl (by decide) (fun _ _ _ _=>yj) (fun _ _ _ _=>(zD (nlL (naL (by decide) _) hu) (ze 1) (PD.pb (zu zV (PD.pb (zu zS (PD.pb (zD (nlL (naL (by decide) _) hu) (ze 3) (ze 0))) (PD.pb (zu yS (PD.pb (zu yS (PD.pb zf) (ze 4))) (PD.pb (yq WN T.m_int boot_int (zq (PD.pb (y8 (yE hu) (ze 0) (ze 2))) zC))))))) (PD.pb zf))))))))))
  (za (zO (zK (v6 hu) (ze 8) (PD.pb (z7 (zb zw (zb zw (zb zw (zb zw (zb zw (zb zw (zb zw zh)))))))))) (za (zy 8 nd (zu zS (PD.pb zw) (ze 8)))
  zg) zg)
  (za (qW 6 (zo 8))
  zg))))
  (za (wv 6)
  zg)))))))
theorem xC : FnScope ["_law_cell_here","_law_great","_law_some","_law_size","_law_at","_law_xs","_law_names_here","_law_k","_law_name","_law_j"] ["_law_cell_here"] (zk (top 51)):=⟨rfl,rfl,rfl,by decide +kernel,rfl,by decide +kernel,by decide +kernel⟩
theorem vW (T : Txt K mg) (ok__law_stream : zx P w K mg base 1 "_law_stream" ["_law_cell_here","_law_many"] M__law_stream) : zx P w K mg base 2 "_law_variables" ["_law_cell_here"] M__law_variables:=
 zG T.d__law_variables xC (fun _ _ _ _ _ _ us hl=>match us,hl with | [_],_=>rfl) fun f cdv A outer s H E hr=>by
  have nd : (["_law_cell_here","_law_great","_law_some","_law_size","_law_at","_law_xs","_law_names_here","_law_k","_law_name","_law_j"] : List Str).Nodup:=xC.nd
  have hu:=zL hr
  exact (za (zy 1 nd zw)
  (za (zy 2 nd zw)
  (za (zy 3 nd (zu zS (PD.pb zf) (PD.pb (zu zV (ze 0) (PD.pb zf)))))
  (za (zy 4 nd (zu zV (PD.pb (zu yx (ze 0) (PD.pb zf))) (ze 3)))
  (za (zy 5 nd (PR.pd (zm ok__law_stream (hr.mono (by decide)) (zb (zu yx (ze 0) (PD.pb zf)) (zb zf zh)))))
  (za (ww 6 nd (xP zh))
  (za (wc 7 nd rfl PassesOwn.never (y9 T.m_range zf) (za (zy 8 nd (zD (nlL (naL (by decide) _) hu) (ze 1) (PD.pb (zu zV (PD.pb (zu zS (PD.pb (zD (nlL (naL (by decide) _) hu) (ze 5) (PD.pb zf))) (PD.pb (zu yS (PD.pb (zu yS (PD.pb zf) (ze 7))) (PD.pb (yq WN T.m_int boot_int (zq (PD.pb (y8 (yE hu) (ze 4) (PD.pb zf))) zC))))))) (PD.pb zf)))))
  (za (wc 9 nd rfl PassesOwn.never (vN T.m_range zf (zo 3)) (za (zy 8 nd (zu zS (ze 8) (PD.pb (zD (nlL (naL (by decide) _) hu) (ze 2) (PD.pb (zu zV (PD.pb (zu zS (PD.pb (zD (nlL (naL (by decide) _) hu) (ze 5) (ze 9))) (PD.pb (zu yS (PD.pb (zu yS (PD.pb zf) (ze 7))) (PD.pb (yq WN T.m_int boot_int (zq (PD.pb (y8 (yE hu) (ze 4) (ze 9))) zC))))))) (PD.pb zf)))))))
  zg))
  (za (qW 6 (zo 8))
  zg))))
  (za (wv 6)
  zg))))))))
theorem xY : FnScope ["_law_x","_law_y","_law_names_here","_law_way","_law_one"] ["_law_x","_law_y","_law_names_here"] (zk (top 52)):=⟨rfl,rfl,rfl,by decide +kernel,rfl,by decide +kernel,by decide +kernel⟩
theorem uF (T : Txt K mg)  : zx P w K mg base 1 "_law_constant" ["_law_x","_law_y","_law_names_here"] M__law_constant:=
 zG T.d__law_constant xY (fun _ _ _ _ _ _ us hl=>match us,hl with | [_,_,_],_=>rfl) fun f cdv A outer s H E hr=>by
  have nd : (["_law_x","_law_y","_law_names_here","_law_way","_law_one"] : List Str).Nodup:=xY.nd
  have hu:=zL hr
  exact (za (zy 3 nd (zu zV (ze 0) (PD.pb zf)))
  (za (zO (zK (W9 hu) (ze 3) (PD.pb zf)) (za (zp (PD.pr (zD (nlL (naL (by decide) _) hu) (ze 2) (PD.pb (zu zV (PD.pb (zu yx (ze 0) (PD.pb zf))) (PD.pb (zF yc T.m_len boot_len (zq (ze 2) zC))))))))
  zg) zg)
  (za (zO (zK (yE hu) (ze 3) (PD.pb zf)) (za (zp (PD.pr (zu Wx (PD.pb (zu zV (PD.pb (zu yx (ze 0) (PD.pb zf))) (PD.pb zf))) (PD.pb zf))))
  zg) zg)
  (za (zy 4 nd (zu zV (PD.pb (zu zS (PD.pb (zu zS (PD.pb (zu yS (ze 0) (PD.pb (zu j4 (PD.pb zf) (PD.pb zf))))) (PD.pb (zu yS (ze 1) (PD.pb (zu j4 (PD.pb zf) (PD.pb zf))))))) (ze 0))) (PD.pb (zu j4 (PD.pb zf) (PD.pb zf)))))
  (za (zp (PD.pr (zD (nlL (naL (by decide) _) hu) (PD.pb (PR.pd (xP (zb (zo 4) (zb (zu Wx (PD.pb zf) (ze 4)) zh))))) (PD.pb (zu Wx (ze 3) (PD.pb zf))))))
  zg)))))
theorem uv : FnScope ["_law_cell_here","_law_names_here","_law_xs","_law_places"] ["_law_cell_here","_law_names_here"] (zk (top 53)):=⟨rfl,rfl,rfl,by decide +kernel,rfl,by decide +kernel,by decide +kernel⟩
theorem kZ (T : Txt K mg) (ok__law_constant : zx P w K mg base 1 "_law_constant" ["_law_x","_law_y","_law_names_here"] M__law_constant) (ok__law_stream : zx P w K mg base 1 "_law_stream" ["_law_cell_here","_law_many"] M__law_stream) : zx P w K mg base 2 "_law_fact" ["_law_cell_here","_law_names_here"] M__law_fact:=
 zG T.d__law_fact uv (fun _ _ _ _ _ _ us hl=>match us,hl with | [_,_],_=>rfl) fun f cdv A outer s H E hr=>by
  have nd : (["_law_cell_here","_law_names_here","_law_xs","_law_places"] : List Str).Nodup:=uv.nd
  have hu:=zL hr
  exact (za (zy 2 nd (PR.pd (zm ok__law_stream (hr.mono (by decide)) (zb (zo 0) (zb zf zh)))))
  (za (zy 3 nd (yq wu T.m_tuple boot_tuple (zq (PD.pb (PR.pd (z6 (N:=["_law_k","_law_names_here","_law_xs"]) (js:=[1,2]) (i:=0) rfl (tf (sn:=(zk (top 53)).names) rfl rfl (by decide +kernel) rfl (by decide +kernel) (by decide +kernel) rfl (by intro k j x e1 e2; rcases k with _ | _ | k <;> first | (cases e1; cases e2; exact ⟨rfl,(by first | exact Or.inl rfl | exact Or.inr rfl),(by first | exact Or.inl rfl | exact Or.inr (Or.inl rfl) | exact Or.inr (Or.inr rfl)),(by first | exact Or.inl rfl | exact Or.inr rfl)⟩) | (simp at e1))) (vN T.m_range zf (zu zS (PD.pb zf) (PD.pb (zu zV (PD.pb (zD (nlL (naL (by decide) _) hu) (ze 2) (PD.pb zf))) (PD.pb zf))))) (by decide) (by decide) rfl rfl (by decide) (fun _ _ _ _=>yj) (fun _ _ _ _=>(PR.pd (zm ok__law_constant (hr.mono (by decide)) (zb (zD (nlL (naL (by decide) _) hu) (ze 2) (PD.pb (zu yS (PD.pb zf) (ze 0)))) (zb (zD (nlL (naL (by decide) _) hu) (ze 2) (PD.pb (zu zS (PD.pb (zu yS (PD.pb zf) (ze 0))) (PD.pb zf)))) (zb (zo 1) zh))))))))) zC)))
  (za (zp (PD.pr (z7 (zb (zD (nlL (naL (by decide) _) hu) (ze 1) (PD.pb (zu zV (PD.pb (zD (nlL (naL (by decide) _) hu) (ze 2) (PD.pb zf))) (PD.pb (zF yc T.m_len boot_len (zq (ze 1) zC)))))) (zb (PR.pd (yC (ze 3) z5 (zN zf))) zh)))))
  zg)))
theorem uw : FnScope ["_law_x","_law_names_here","_law_variables_here"] ["_law_x","_law_names_here","_law_variables_here"] (zk (top 54)):=⟨rfl,rfl,rfl,by decide +kernel,rfl,by decide +kernel,by decide +kernel⟩
theorem Za (T : Txt K mg) (ok__law_constant : zx P w K mg base 1 "_law_constant" ["_law_x","_law_y","_law_names_here"] M__law_constant) : zx P w K mg base 2 "_law_term" ["_law_x","_law_names_here","_law_variables_here"] M__law_term:=
 zG T.d__law_term uw (fun _ _ _ _ _ _ us hl=>match us,hl with | [_,_,_],_=>rfl) fun f cdv A outer s H E hr=>by
  have nd : (["_law_x","_law_names_here","_law_variables_here"] : List Str).Nodup:=uw.nd
  have hu:=zL hr
  exact (za (zO (zK qU (PD.pb (zu zV (ze 0) (PD.pb zf))) (PD.pb zf)) (za (zp (PD.pr (zD (nlL (naL (by decide) _) hu) (ze 2) (PD.pb (zu zV (PD.pb (zu yx (ze 0) (PD.pb zf))) (PD.pb (zF yc T.m_len boot_len (zq (ze 2) zC))))))))
  zg) zg)
  (za (zp (zm ok__law_constant (hr.mono (by decide)) (zb (zu yx (ze 0) (PD.pb zf)) (zb (zo 0) (zb (zo 1) zh)))))
  zg))
theorem wq : FnScope ["_law_xs","_law_names_here","_law_variables_here","_law_many","_law_x","_law_one","_law_kind","_law_terms"] ["_law_xs","_law_names_here","_law_variables_here","_law_many"] (zk (top 55)):=⟨rfl,rfl,rfl,by decide +kernel,rfl,by decide +kernel,by decide +kernel⟩
theorem tS (T : Txt K mg) (ok__law_term : zx P w K mg base 2 "_law_term" ["_law_x","_law_names_here","_law_variables_here"] M__law_term) : YD P w K mg base 3 "_law_literal" ["_law_xs","_law_names_here","_law_variables_here","_law_many"] M__law_literal:=
 UJ T.d__law_literal wq (fun _ _ _ _ _ _ us hl=>match us,hl with | [_,_,_,_],_=>rfl) fun f cdv A outer s H E hr=>by
  have nd : (["_law_xs","_law_names_here","_law_variables_here","_law_many","_law_x","_law_one","_law_kind","_law_terms"] : List Str).Nodup:=wq.nd
  have hu:=zL hr
  exact (za (uM 4 nd (ja 0))
  (za (zO (zK qU (PD.pb (zu zV (ze 4) (PD.pb zf))) (PD.pb zf)) (za (uM 5 nd (q9 ok__law_term (hr.mono (by decide)) (zcD (ja 0) (zq (ze 1) (zq (ze 2) zC)))))
  (za (UN (TN (uP (PD.px (zD (nlL (naL (by decide) _) hu) (PD.pb (PR.pd (xP (zb zw (zb zw zh))))) (PD.pb (zu zV (ze 4) (PD.pb zf))))) (uP (PD.px (zo 5)) (uP (q9 ok__law_term (hr.mono (by decide)) (zcD (ja 0) (zq (ze 1) (zq (ze 2) zC)))) WU)))))
  zg)) zg)
  (za (zy 6 nd zw)
  (za (zO (PDW.pdt (yt (zK (yE hu) (PD.pb (zu zV (ze 4) (PD.pb zf))) (PD.pb zf)) (yw (zK qU (ze 3) (PD.pb zf))))) (za (zy 6 nd zw)
  zg) zg)
  (za (uM 7 nd (WY wu T.m_tuple boot_tuple (UM (N:=["_law_k","_law_xs","_law_names_here","_law_variables_here"]) (js:=[0,1,2]) (i:=0) rfl (tf (sn:=(zk (top 55)).names) rfl rfl (by decide +kernel) rfl (by decide +kernel) (by decide +kernel) rfl (by intro k j x e1 e2; rcases k with _ | _ | _ | k <;> first | (cases e1; cases e2; exact ⟨rfl,(by first | exact Or.inl rfl | exact Or.inr rfl),(by first | exact Or.inl rfl | exact Or.inr (Or.inl rfl) | exact Or.inr (Or.inr rfl)),(by first | exact Or.inl rfl | exact Or.inr rfl)⟩) | (simp at e1))) (y9 T.m_range (zu zV (PD.pb (zu yx (ze 4) (PD.pb zf))) (PD.pb zf))) (by decide) (by decide) rfl rfl (by decide) (fun _ _ _ _=>(q9 ok__law_term (hr.mono (by decide)) (zcD (ja 1) (zq (ze 2) (zq (ze 3) zC))))))))
  (za (zp (PD.pr (z7 (zb (zo 6) (zb (zD (nlL (naL (by decide) _) hu) (ze 1) (PD.pb (zu zV (PD.pb (zu yx (ze 4) (PD.pb zf))) (PD.pb (zF yc T.m_len boot_len (zq (ze 1) zC)))))) (zb (zo 7) zh))))))
  zg))))))
theorem ux : FnScope ["_law_cell_here","_law_names_here","_law_variables_here","_law_xs","_law_rest","_law_body","_law_k","_law_many","_law_terms","_law_way"] ["_law_cell_here","_law_names_here","_law_variables_here"] (zk (top 56)):=⟨rfl,rfl,rfl,by decide +kernel,rfl,by decide +kernel,by decide +kernel⟩
theorem Zb (T : Txt K mg) (ok__law_literal : YD P w K mg base 3 "_law_literal" ["_law_xs","_law_names_here","_law_variables_here","_law_many"] M__law_literal) (ok__law_stream : zx P w K mg base 1 "_law_stream" ["_law_cell_here","_law_many"] M__law_stream) (ok__law_term : zx P w K mg base 2 "_law_term" ["_law_x","_law_names_here","_law_variables_here"] M__law_term) : zx P w K mg base 4 "_law_rule" ["_law_cell_here","_law_names_here","_law_variables_here"] M__law_rule:=
 zG T.d__law_rule ux (fun _ _ _ _ _ _ us hl=>match us,hl with | [_,_,_],_=>rfl) fun f cdv A outer s H E hr=>by
  have nd : (["_law_cell_here","_law_names_here","_law_variables_here","_law_xs","_law_rest","_law_body","_law_k","_law_many","_law_terms","_law_way"] : List Str).Nodup:=ux.nd
  have hu:=zL hr
  exact (za (zy 3 nd (PR.pd (zm ok__law_stream (hr.mono (by decide)) (zb (zo 0) (zb zf zh)))))
  (za (ww 4 nd (yC (ze 3) (zN zf) z5))
  (za (zy 5 nd (z7 zh))
  (za (wc 6 nd rfl PassesOwn.never (y9 T.m_range (zu zS (PD.pb zf) (PD.pb (zu zV (PD.pb (zD (nlL (naL (by decide) _) hu) (ze 3) (PD.pb zf))) (PD.pb zf))))) (za (zy 7 nd (zF yc T.m_len boot_len (zq (PD.pb (PR.pd (z6 (N:=["_law_literal_here"]) (js:=[]) (i:=0) rfl (yy rfl (by decide +kernel) (by decide +kernel) rfl) (yk (zo 5)) (by decide) (by decide) rfl rfl (by decide) (fun _ _ _ _=>vf (zK (yE hu) (PD.pb (zD (nlL (naL (by decide) _) hu) (ze 0) (PD.pb zf))) (PD.pb zw))) (fun _ _ _ _=>(zo 0))))) zC)))
  (za (uM 5 nd (zcL zS (PD.px (zo 5)) (TN (uP (UL ok__law_literal (hr.mono (by decide)) (Q4 4 (ZL (zo 1) (ZL (zo 2) (ZL (zo 7) Q3))))) WU))))
  zg)))
  (za (zy 8 nd (yq wu T.m_tuple boot_tuple (zq (PD.pb (PR.pd (z6 (N:=["_law_x","_law_names_here","_law_variables_here"]) (js:=[1,2]) (i:=0) rfl (tf (sn:=(zk (top 56)).names) rfl rfl (by decide +kernel) rfl (by decide +kernel) (by decide +kernel) rfl (by intro k j x e1 e2; rcases k with _ | _ | k <;> first | (cases e1; cases e2; exact ⟨rfl,(by first | exact Or.inl rfl | exact Or.inr rfl),(by first | exact Or.inl rfl | exact Or.inr (Or.inl rfl) | exact Or.inr (Or.inr rfl)),(by first | exact Or.inl rfl | exact Or.inr rfl)⟩) | (simp at e1))) (yk (PR.pd (yC (ze 3) (zN zf) (zN (zu zS (PD.pb zf) (PD.pb (zu zV (PD.pb (zD (nlL (naL (by decide) _) hu) (ze 3) (PD.pb zf))) (PD.pb zf)))))))) (by decide) (by decide) rfl rfl (by decide) (fun _ _ _ _=>yj) (fun _ _ _ _=>(PR.pd (zm ok__law_term (hr.mono (by decide)) (zb (zo 0) (zb (zo 1) (zb (zo 2) zh))))))))) zC)))
  (za (zO (zK (W9 hu) (PD.pb (zu zV (PD.pb (zD (nlL (naL (by decide) _) hu) (ze 3) (PD.pb zf))) (PD.pb zf))) (PD.pb zf)) (za (zy 9 nd (zD (nlL (naL (by decide) _) hu) (PD.pb (PR.pd (xP (zb (z7 (zb zw (zb (zD (nlL (naL (by decide) _) hu) (ze 2) (PD.pb (zu zV (PD.pb (zD (nlL (naL (by decide) _) hu) (ze 3) (PD.pb zf))) (PD.pb zf)))) zh))) (zb (z7 (zb zw (zb (zD (nlL (naL (by decide) _) hu) (ze 2) (PD.pb (zu zV (PD.pb (zD (nlL (naL (by decide) _) hu) (ze 3) (PD.pb zf))) (PD.pb zf)))) zh))) (zb (z7 (zb zw zh)) zh)))))) (PD.pb (zu zV (PD.pb (zD (nlL (naL (by decide) _) hu) (ze 3) (PD.pb zf))) (PD.pb zf)))))
  (za (zy 8 nd (zu zS (PD.pb (PR.pd (yC (ze 8) z5 (zN zf)))) (PD.pb (z7 (zb (zo 9) zh)))))
  zg)) zg)
  (za (zp (PD.pr (z7 (zb (zD (nlL (naL (by decide) _) hu) (ze 1) (PD.pb (zu zV (PD.pb (zu yx (PD.pb (zD (nlL (naL (by decide) _) hu) (ze 3) (PD.pb zf))) (PD.pb zf))) (PD.pb (zF yc T.m_len boot_len (zq (ze 1) zC)))))) (zb (zo 8) (zb (zo 5) zh))))))
  zg)))))))
theorem vE : FnScope ["_law_words_here","_law_text","_law_word"] ["_law_words_here"] (zk (top 57)):=⟨rfl,rfl,rfl,by decide +kernel,rfl,by decide +kernel,by decide +kernel⟩
theorem jp (T : Txt K mg)  : zx P w K mg base 1 "_law_words" ["_law_words_here"] M__law_words:=
 zG T.d__law_words vE (fun _ _ _ _ _ _ us hl=>match us,hl with | [_],_=>rfl) fun f cdv A outer s H E hr=>by
  have nd : (["_law_words_here","_law_text","_law_word"] : List Str).Nodup:=vE.nd
  have hu:=zL hr
  exact (za (zy 1 nd zw)
  (za (wc 2 nd rfl PassesOwn.never (yk (zo 0)) (za (zO (zI (xc "tuple" T.t_tuple T.m_isinstance T.m_tuple boot_tuple (ze 2))) (za (zy 1 nd (zu zS (PD.pb (zu zS (ze 1) (PD.pb zw))) (PD.pb (U0 zw (ze 2)))))
  zg) (za (zy 1 nd (zu zS (PD.pb (zu zS (ze 1) (PD.pb zw))) (PD.pb (yq Vo T.m_str boot_str (zq (ze 2) zC)))))
  zg))
  zg))
  (za (zp (PD.pr (TW (ze 1) (zN zf) z5)))
  zg)))
theorem yY : FnScope ["_law_literal_here"] ["_law_literal_here"] (zk (top 58)):=⟨rfl,rfl,rfl,by decide +kernel,rfl,by decide +kernel,by decide +kernel⟩
theorem wH (T : Txt K mg) (ok__law_words : zx P w K mg base 1 "_law_words" ["_law_words_here"] M__law_words) : zx P w K mg base 2 "_law_literal_text" ["_law_literal_here"] M__law_literal_text:=
 zG T.d__law_literal_text yY (fun _ _ _ _ _ _ us hl=>match us,hl with | [_],_=>rfl) fun f cdv A outer s H E hr=>by
  have nd : (["_law_literal_here"] : List Str).Nodup:=yY.nd
  have hu:=zL hr
  exact (za (zO (zK (yE hu) (PD.pb (zD (nlL (naL (by decide) _) hu) (ze 0) (PD.pb zf))) (PD.pb zw)) (za (zp (zm ok__law_words (hr.mono (by decide)) (zb (zu zS (PD.pb (z7 (zb (zD (nlL (naL (by decide) _) hu) (ze 0) (PD.pb zf)) zh))) (PD.pb (zD (nlL (naL (by decide) _) hu) (ze 0) (PD.pb zf)))) zh)))
  zg) zg)
  (za (zO (zK (yE hu) (PD.pb (zD (nlL (naL (by decide) _) hu) (ze 0) (PD.pb zf))) (PD.pb zw)) (za (zp (PD.pr (zu zS (PD.pb zw) (PD.pb (PR.pd (zm ok__law_words (hr.mono (by decide)) (zb (zu zS (PD.pb (z7 (zb (zD (nlL (naL (by decide) _) hu) (ze 0) (PD.pb zf)) zh))) (PD.pb (zD (nlL (naL (by decide) _) hu) (ze 0) (PD.pb zf)))) zh)))))))
  zg) zg)
  (za (zp (zm ok__law_words (hr.mono (by decide)) (zb (zo 0) zh)))
  zg)))
theorem wr : FnScope ["_law_told","_law_due"] ["_law_told","_law_due"] (zk (top 59)):=⟨rfl,rfl,rfl,by decide +kernel,rfl,by decide +kernel,by decide +kernel⟩
theorem uy {P : Program} {w : World} {K : PySem.W.Frag} {mg : Str->Option Value} {base : Heap} (T : Txt K mg)  : (k : Nat)->zx P w K mg base (1 + k) "_law_same" ["_law_told","_law_due"] (zJ k)
 | 0=>zG T.d__law_same wr (fun _ _ _ _ _ _ us hl=>match us,hl with | [_,_],_=>rfl) fun f cdv A outer s H E hr=>Vp
 | k + 1=>by
  have ok__law_same:=uy (P:=P) (w:=w) (base:=base) T  k
  exact zG T.d__law_same wr (fun _ _ _ _ _ _ us hl=>match us,hl with | [_,_],_=>rfl) fun f cdv A outer s H E hr=>by
   have nd : (["_law_told","_law_due"] : List Str).Nodup:=wr.nd
   have hu:=zL hr
   exact (za (zO (zI (xc "tuple" T.t_tuple T.m_isinstance T.m_tuple boot_tuple (ze 1))) (za (zO (PDW.pdt (yt (zQ (zI (xc "tuple" T.t_tuple T.m_isinstance T.m_tuple boot_tuple (ze 0)))) (yw (zK (v7 hu) (PD.pb (zF yc T.m_len boot_len (zq (ze 0) zC))) (PD.pb (zF yc T.m_len boot_len (zq (ze 1) zC))))))) (za (zp (PD.pr x4))
  zg) zg)
  (za (zp (PD.pr (y8 (yE hu) (PD.pb (PR.pd (z6 (N:=["_law_k","_law_told","_law_due"]) (js:=[0,1]) (i:=0) rfl (tf (sn:=(zk (top 59)).names) rfl rfl (by decide +kernel) rfl (by decide +kernel) (by decide +kernel) rfl (by intro k j x e1 e2; rcases k with _ | _ | k <;> first | (cases e1; cases e2; exact ⟨rfl,(by first | exact Or.inl rfl | exact Or.inr rfl),(by first | exact Or.inl rfl | exact Or.inr (Or.inl rfl) | exact Or.inr (Or.inr rfl)),(by first | exact Or.inl rfl | exact Or.inr rfl)⟩) | (simp at e1))) (y9 T.m_range (zF yc T.m_len boot_len (zq (ze 1) zC))) (by decide) (by decide) rfl rfl (by decide) (fun _ _ _ _=>vf (zQ (zI (PR.pd (zm ok__law_same (hr.mono (by first | decide | exact Nat.le_refl _ | (simp only [Nat.add_eq]; omega))) (zb (zD (nlL (naL (by decide) _) hu) (ze 1) (ze 0)) (zb (zD (nlL (naL (by decide) _) hu) (ze 2) (ze 0)) zh))))))) (fun _ _ _ _=>(zo 0))))) (PD.pb (PR.pd (xP zh))))))
  zg)) zg)
  (za (zp (PD.pr (wZ (TD (xc "bool" T.t_bool T.m_isinstance T.m_bool boot_bool (ze 0))) (wZ (y8 (yE hu) (ze 0) (ze 1)) (wa (y8 (yE hu) (PD.pb (xc "str" T.t_str T.m_isinstance T.m_str boot_str (ze 0))) (PD.pb (xc "str" T.t_str T.m_isinstance T.m_str boot_str (ze 1)))))))))
  zg))
theorem Zc (T : Txt K mg)  : zx P w K mg base 7 "_law_same" ["_law_told","_law_due"] M__law_same:=uy T  6
theorem TZ : FnScope ["_law_script","_law_names_here","_law_cell_here","_law_some","_law_variables_here","_law_k","_law_fact_here","_law_text","_law_told","_law_rule_here"] ["_law_script"] (zk (top 60)):=⟨rfl,rfl,rfl,by decide +kernel,rfl,by decide +kernel,by decide +kernel⟩
theorem zba (T : Txt K mg) {f : Addr} {fd : FuncData} (F : Fun K "law" "law" (top 60) f fd) (ok__law_cell : zx P w K mg base 1 "_law_cell" ["_law_script","_law_k"] M__law_cell) (ok__law_fact : zx P w K mg base 2 "_law_fact" ["_law_cell_here","_law_names_here"] M__law_fact) (ok__law_literal_text : zx P w K mg base 2 "_law_literal_text" ["_law_literal_here"] M__law_literal_text) (ok__law_names : zx P w K mg base 2 "_law_names" ["_law_cell_here","_law_many"] M__law_names) (ok__law_rule : zx P w K mg base 4 "_law_rule" ["_law_cell_here","_law_names_here","_law_variables_here"] M__law_rule) (ok__law_same : zx P w K mg base 7 "_law_same" ["_law_told","_law_due"] M__law_same) (ok__law_variables : zx P w K mg base 2 "_law_variables" ["_law_cell_here"] M__law_variables) (ok__law_words : zx P w K mg base 1 "_law_words" ["_law_words_here"] M__law_words) (ok_fact_text : zx P w K mg base 2 "fact_text" ["fact"] M_fact_text) (ok_read_fact : zx P w K mg base 5 "read_fact" ["text"] M_read_fact) (ok_read_rule : zx P w K mg base 9 "read_rule" ["text"] M_read_rule) (ok_rule_text : zx P w K mg base 3 "rule_text" ["rule"] M_rule_text) : FnOk P w K mg base CX0 10 f fd ["_law_script"] (spD K Vq):=
 YB F TZ fun f cdv A outer s H E hr=>by
  have nd : (["_law_script","_law_names_here","_law_cell_here","_law_some","_law_variables_here","_law_k","_law_fact_here","_law_text","_law_told","_law_rule_here"] : List Str).Nodup:=TZ.nd
  have hu:=zL hr
  exact (za (ww 1 nd (zm ok__law_names (hr.mono (by decide)) (zb (PR.pd (zm ok__law_cell (hr.mono (by decide)) (zb (zo 0) (zb zf zh)))) (zb zf zh))))
  (za (zy 2 nd (zu yx (PD.pb (PR.pd (zm ok__law_cell (hr.mono (by decide)) (zb (zo 0) (zb zf zh))))) (PD.pb zf)))
  (za (zy 3 nd (PR.pd (xP (zb zw (zb zw (zb zw (zb zw (zb zw (zb zw (zb zw (zb zw zh)))))))))))
  (za (zO (zK (yE hu) (PD.pb (zu zV (ze 2) (PD.pb zf))) (PD.pb zf)) (za (YF 1 zf (zD (nlL (naL (by decide) _) hu) (ze 3) (PD.pb (zu zV (PD.pb (zu yx (ze 2) (PD.pb zf))) (PD.pb zf)))))
  (za (YF 1 zf (zD (nlL (naL (by decide) _) hu) (ze 3) (PD.pb (zu zV (PD.pb (zu yx (ze 2) (PD.pb zf))) (PD.pb zf)))))
  zg)) zg)
  (za (zy 4 nd (PR.pd (zm ok__law_variables (hr.mono (by decide)) (zb (PR.pd (zm ok__law_cell (hr.mono (by decide)) (zb (zo 0) (zb zf zh)))) zh))))
  (za (wc 5 nd rfl PassesOwn.never (vN T.m_range zf (zF (zaS rfl) T.m_max boot_max (zq (PD.pb zf) (zq (PD.pb (zF (zaT rfl) T.m_min boot_min (zq (PD.pb zf) (zq (PD.pb (zF yc T.m_len boot_len (zq (ze 0) zC))) zC)))) zC)))) (za (WD 1 (zy 6 nd (PR.pd (zm ok__law_fact (hr.mono (by decide)) (zb (PR.pd (zm ok__law_cell (hr.mono (by decide)) (zb (zo 0) (zb (zo 5) zh)))) (zb (zo 1) zh))))))
  (za (zy 7 nd (PR.pd (zm ok__law_words (hr.mono (by decide)) (zb (zu zS (PD.pb (z7 (zb (zD (nlL (naL (by decide) _) hu) (ze 6) (PD.pb zf)) zh))) (PD.pb (zD (nlL (naL (by decide) _) hu) (ze 6) (PD.pb zf)))) zh))))
  (za (zy 8 nd (PR.pd (zm ok_fact_text (hr.mono (by decide)) (zb (zo 6) zh))))
  (za (zO (PDW.pdt (yt (zQ (zI (xc "str" T.t_str T.m_isinstance T.m_str boot_str (ze 8)))) (yt (zK (v7 hu) (ze 8) (ze 7)) (yw (zQ (zI (PR.pd (zm ok__law_same (hr.mono (by decide)) (zb (PR.pd (zm ok_read_fact (hr.mono (by decide)) (zb (zo 7) zh))) (zb (zo 6) zh)))))))))) (za (zp (PD.pr x4))
  zg) zg)
  (za (WD 1 (zy 9 nd (PR.pd (zm ok__law_rule (hr.mono (by decide)) (zb (PR.pd (zm ok__law_cell (hr.mono (by decide)) (zb (zo 0) (zb (zo 5) zh)))) (zb (zo 1) (zb (zo 4) zh)))))))
  (za (zy 7 nd (zu zS (PD.pb (PR.pd (zm ok__law_words (hr.mono (by decide)) (zb (zu zS (PD.pb (z7 (zb (zD (nlL (naL (by decide) _) hu) (ze 9) (PD.pb zf)) zh))) (PD.pb (zD (nlL (naL (by decide) _) hu) (ze 9) (PD.pb zf)))) zh)))) (PD.pb zw)))
  (za (zy 7 nd (zu zS (ze 7) (PD.pb (tp zw (PD.pb (PR.pd (z6 (N:=["_law_literal_here"]) (js:=[]) (i:=0) rfl (yy rfl (by decide +kernel) (by decide +kernel) rfl) (yk (zD (nlL (naL (by decide) _) hu) (ze 9) (PD.pb zf))) (by decide) (by decide) rfl rfl (by decide) (fun _ _ _ _=>yj) (fun _ _ _ _=>(PR.pd (zm ok__law_literal_text (hr.mono (by decide)) (zb (zo 0) zh)))))))))))
  (za (zy 8 nd (PR.pd (zm ok_rule_text (hr.mono (by decide)) (zb (zo 9) zh))))
  (za (zO (PDW.pdt (yt (zQ (zI (xc "str" T.t_str T.m_isinstance T.m_str boot_str (ze 8)))) (yt (zK (v7 hu) (ze 8) (ze 7)) (yw (zQ (zI (PR.pd (zm ok__law_same (hr.mono (by decide)) (zb (PR.pd (zm ok_read_rule (hr.mono (by decide)) (zb (zo 7) zh))) (zb (zo 9) zh)))))))))) (za (zp (PD.pr x4))
  zg) zg)
  zg))))))))))
  (za (zp (PD.pr x4))
  zg)))))))
abbrev W:=List Nat
abbrev S (l : W) : Str:=⟨l.toArray⟩
def occ (y : W) : Nat->Nat->W->List Nat
 | _,_,[]=>[]
 | k + 1,i,_::r=>occ y k (i + 1) r
 | 0,i,c::r=>if y.isPrefixOf (c::r) = true then i::occ y (y.length - 1) (i + 1) r else occ y 0 (i + 1) r
theorem Vs {l y : W} {i : Nat} (hy : 0 < y.length) : (i + y.length <= l.length /\ Builtin.Str.subAt (S l) (S y) i = true) ↔ y.isPrefixOf (l.drop i) = true:=by
 unfold Builtin.Str.subAt
 rw [List.isPrefixOf_iff_prefix,List.prefix_iff_eq_take]
 have e : (S l).cps.extract i (i + (S y).length) = ((l.drop i).take y.length).toArray:=by
  show l.toArray.extract i (i + y.toArray.size) = _
  rw [List.size_toArray,List.extract_toArray,List.extract_eq_drop_take]
  congr 2
  omega
 rw [e,beq_iff_eq]
 constructor
 ·rintro ⟨_,h⟩
  exact (congrArg Array.toList h).symm
 ·intro h
  have hl:=congrArg List.length h
  rw [List.length_take,List.length_drop] at hl
  exact ⟨by omega,by rw [<- h]⟩
open StrLaws in
theorem ZZ {l y : W} (hy : 0 < y.length) : ∀ (m i free : Nat) (found : Array Nat),i + m = l.length + 1->found.size <= i->
  (forIn (List.range' i m) (found,free) (occBody (S l) (S y) l.length (l.length + 1))).run.fst.toList = found.toList++occ y (free - i) i (l.drop i)
 | 0,i,free,found,h,_=>by
  rw [List.drop_eq_nil_of_le (by omega)]
  simp [occ]
 | m + 1,i,free,found,h,hf=>by
  rw [List.range'_succ,List.forIn_cons]
  have key:=Vs (l:=l) (y:=y) (i:=i) hy
  unfold occBody
  by_cases c : ((found.size < l.length + 1 /\ free <= i) /\ i + (S y).length <= l.length) /\ Builtin.Str.subAt (S l) (S y) i = true
  ·rw [if_pos c]
   have hl : (S y).length = y.length:=by show y.toArray.size = _; simp
   have hp:=key.mp ⟨by rw [hl] at c; exact c.1.2,c.2⟩
   have hlt : i < l.length:=by rw [hl] at c; omega
   have ih:=ZZ (l:=l) (y:=y) hy m (i + 1) (i + (S y).length) (found.push i) (by omega) (by simp; omega)
   refine Eq.trans ih ?_
   rw [List.drop_eq_getElem_cons hlt,show free - i = 0 by omega] at *
   rw [occ,if_pos hp,hl,show i + y.length - (i + 1) = y.length - 1 by omega]
   simp
  ·rw [if_neg c]
   refine Eq.trans (ZZ hy m (i + 1) free found (by omega) (by omega)) ?_
   by_cases hlt : i < l.length
   ·rw [List.drop_eq_getElem_cons hlt]
    by_cases hfr : free <= i
    ·rw [show free - i = 0 by omega,show free - (i + 1) = 0 by omega,occ,if_neg]
     intro hp
     rw [<- List.drop_eq_getElem_cons hlt] at hp
     have hl : (S y).length = y.length:=by show y.toArray.size = _; simp
     have:=key.mpr hp
     exact c ⟨⟨⟨by omega,hfr⟩,by rw [hl]; exact this.1⟩,this.2⟩
    ·rw [show free - i = (free - (i + 1)) + 1 by omega,occ]
   ·rw [List.drop_eq_nil_of_le (by omega),List.drop_eq_nil_of_le (by omega)]
    simp [occ]
theorem zbb {l y : W} (hy : 0 < y.length) : Builtin.Str.occurrences (S l) (S y) 0 (S l).length ((S l).length + 1) = occ y 0 0 l:=by
 have hl : (S l).length = l.length:=by show l.toArray.size = _; simp
 rw [StrLaws.occ_eq,hl]
 simpa using ZZ hy (l.length + 1) 0 0 #[] (by omega) (by simp)
open StrLaws in
theorem YS {l y : W} : ∀ (r : List Nat) (found : Array Nat) (free : Nat),1 <= found.size->(forIn r (found,free) (occBody (S l) (S y) l.length 1)).run.fst = found
 | [],found,free,_=>rfl
 | a::r,found,free,h=>by
  rw [List.forIn_cons]
  unfold occBody
  rw [if_neg (by rintro ⟨⟨⟨h1,_⟩,_⟩,_⟩; have h1 : found.size < 1:=h1; omega)]
  exact YS r found free h
open StrLaws in
theorem Vt {l y : W} (hy : 0 < y.length) : ∀ (m i : Nat),i + m = l.length + 1->
  (forIn (List.range' i m) (#[],0) (occBody (S l) (S y) l.length 1)).run.fst.toList = (occ y 0 i (l.drop i)).take 1
 | 0,i,h=>by
  rw [List.drop_eq_nil_of_le (by omega)]
  simp [occ]
 | m + 1,i,h=>by
  rw [List.range'_succ,List.forIn_cons]
  have key:=Vs (l:=l) (y:=y) (i:=i) hy
  have hl : (S y).length = y.length:=by show y.toArray.size = _; simp
  unfold occBody
  by_cases c : (((#[] : Array Nat).size < 1 /\ 0 <= i) /\ i + (S y).length <= l.length) /\ Builtin.Str.subAt (S l) (S y) i = true
  ·rw [if_pos c]
   have hp:=key.mp ⟨by rw [hl] at c; exact c.1.2,c.2⟩
   have hlt : i < l.length:=by rw [hl] at c; omega
   refine Eq.trans (congrArg Array.toList (YS (l:=l) (y:=y) (List.range' (i + 1) m) (#[].push i) (i + (S y).length) (by simp))) ?_
   rw [List.drop_eq_getElem_cons hlt] at *
   rw [occ,if_pos hp]
   simp
  ·rw [if_neg c]
   refine Eq.trans (Vt hy m (i + 1) (by omega)) ?_
   by_cases hlt : i < l.length
   ·rw [List.drop_eq_getElem_cons hlt,occ,if_neg]
    intro hp
    rw [<- List.drop_eq_getElem_cons hlt] at hp
    have:=key.mpr hp
    exact c ⟨⟨⟨by simp,by omega⟩,by rw [hl]; exact this.1⟩,this.2⟩
   ·rw [List.drop_eq_nil_of_le (by omega),List.drop_eq_nil_of_le (by omega)]
    simp [occ]
theorem Vu {l y : W} (hy : 0 < y.length) : Builtin.Str.occurrences (S l) (S y) 0 (S l).length 1 = (occ y 0 0 l).take 1:=by
 have hl : (S l).length = l.length:=by show l.toArray.size = _; simp
 rw [StrLaws.occ_eq,hl]
 simpa using Vt hy (l.length + 1) 0 (by omega)
def xJ (p : W) : List W->List W | f::o=>(p++f)::o | []=>[p]
def sp (y : W) : Nat->W->List W
 | _,[]=>[[]]
 | k + 1,_::r=>sp y k r
 | 0,c::r=>if y.isPrefixOf (c::r) = true then []::sp y (y.length - 1) r else xJ [c] (sp y 0 r)
def uG (l : W) (w : Nat) : Nat->List Nat->List W
 | st,[]=>[l.drop st]
 | st,c::cs=>(l.drop st).take (c - st)::uG l w (c + w) cs
theorem jq {l : W} {w : Nat} : ∀ (cs : List Nat) (st : Nat),((st::cs.map (· + w)).zip (cs++[l.length])).map (fun p=>Builtin.Str.strSub (S l) p.1 p.2) = (uG l w st cs).map S
 | [],st=>by
  simp only [List.map_nil,List.nil_append,List.zip_cons_cons,List.zip_nil_left,List.map_cons,uG,Builtin.Str.strSub,List.extract_toArray,List.extract_eq_drop_take]
  rw [List.take_of_length_le (by simp)]
 | c::cs,st=>by
  simp only [List.map_cons,List.cons_append,List.zip_cons_cons,uG]
  rw [<- jq cs (c + w)]
  simp only [List.map_cons,Builtin.Str.strSub,List.extract_toArray,List.extract_eq_drop_take]
theorem tT (x : List W) (h : x ≠ []) : xJ [] x = x:=by cases x with | nil=>exact absurd rfl h | cons f o=>rfl
theorem U1 (y : W) : ∀ (l : W) (k : Nat),sp y k l ≠ []
 | [],k=>by cases k <;> simp [sp]
 | c::r,k + 1=>by rw [sp]; exact U1 y r k
 | c::r,0=>by
  rw [sp]
  split
  ·simp
  ·unfold xJ; split <;> simp
theorem xK {p q : W} {x : List W} : xJ p (xJ q x) = xJ (p++q) x:=by cases x <;> simp [xJ]
theorem YT {l y : W} (hy : 0 < y.length) : ∀ (r : W),
  (∀ i st,l.drop i = r->st <= i->i <= l.length->uG l y.length st (occ y 0 i r) = xJ ((l.drop st).take (i - st)) (sp y 0 r)) /\
  (∀ i k,l.drop i = r->k <= r.length->i <= l.length->uG l y.length (i + k) (occ y k i r) = sp y k r)
 | []=>by
  have hA : ∀ i st,l.drop i = []->st <= i->i <= l.length->uG l y.length st (occ y 0 i []) = xJ ((l.drop st).take (i - st)) (sp y 0 []):=by
   intro i st e h1 h2
   have : l.length <= i:=by simpa using e
   simp only [occ,uG,sp,xJ,List.append_nil]
   rw [List.take_of_length_le (by simp; omega)]
  refine ⟨hA,fun i k e hk h2=>?_⟩
  have : k = 0:=by simpa using hk
  subst this
  simp [occ,uG,sp,e]
 | c::r=>by
  obtain ⟨ihA,ihB⟩:=YT hy r
  have nxt : ∀ i,l.drop i = c::r->l.drop (i + 1) = r /\ i < l.length:=fun i e=>by
   have h1 : i < l.length:=by
    have:=congrArg List.length e
    simp at this; omega
   exact ⟨by rw [<- List.drop_drop,e]; rfl,h1⟩
  have hA : ∀ i st,l.drop i = c::r->st <= i->i <= l.length->uG l y.length st (occ y 0 i (c::r)) = xJ ((l.drop st).take (i - st)) (sp y 0 (c::r)):=by
   intro i st e h1 h2
   obtain ⟨e1,hlt⟩:=nxt i e
   rw [occ,sp]
   by_cases hp : y.isPrefixOf (c::r) = true
   ·rw [if_pos hp,if_pos hp,uG,xJ,List.append_nil]
    have hl : y.length <= r.length + 1:=by
     have:=(List.isPrefixOf_iff_prefix.mp hp).length_le
     simpa using this
    have:=ihB (i + 1) (y.length - 1) e1 (by omega) (by omega)
    rw [show i + 1 + (y.length - 1) = i + y.length by omega] at this
    rw [this]
   ·rw [if_neg hp,if_neg hp,ihA (i + 1) st e1 (by omega) (by omega),xK]
    congr 1
    have e2 : (l.drop st).drop (i - st) = c::r:=by rw [List.drop_drop,show st + (i - st) = i by omega]; exact e
    rw [show i + 1 - st = (i - st) + 1 by omega,List.take_succ]
    congr 1
    have : (l.drop st)[i - st]? = some c:=by
     have:=congrArg (·[0]?) e2
     simpa using this
    rw [this]; rfl
  refine ⟨hA,fun i k e hk h2=>?_⟩
  obtain ⟨e1,hlt⟩:=nxt i e
  cases k with
  | zero=>
   rw [Nat.add_zero,hA i i e (Nat.le_refl _) h2,Nat.sub_self,List.take_zero,tT _ (U1 _ _ _)]
  | succ k=>
   rw [occ,sp,show i + (k + 1) = i + 1 + k by omega]
   exact ihB (i + 1) k e1 (by simpa using hk) (by omega)
theorem tU {y : W} : ∀ (r : W) (k i : Nat),r.length < y.length->occ y k i r = []
 | [],k,i,_=>by cases k <;> rfl
 | c::r,k + 1,i,h=>by rw [occ]; exact tU r k _ (by simp at h; omega)
 | c::r,0,i,h=>by
  rw [occ,if_neg]
  ·exact tU r 0 _ (by simp at h; omega)
  ·intro hp
   have:=(List.isPrefixOf_iff_prefix.mp hp).length_le
   omega
theorem U2 {l y : W} (hy : 0 < y.length) (hk : y.all (· < 256) = true) : Txt.split (S l) (S y) = (sp y 0 l).map S:=by
 have hl : (S l).length = l.length:=by show l.toArray.size = _; simp
 have hly : (S y).length = y.length:=by show y.toArray.size = _; simp
 have main : Builtin.Str.partsBetween (S l) (occ y 0 0 l) y.length = (sp y 0 l).map S:=by
  unfold Builtin.Str.partsBetween
  rw [hl]
  have:=jq (l:=l) (w:=y.length) (occ y 0 0 l) 0
  refine Eq.trans this ?_
  rw [(YT hy l).1 0 0 rfl (Nat.le_refl _) (Nat.zero_le _)]
  rw [Nat.sub_self,List.take_zero,tT _ (U1 _ _ _)]
 have none : occ y 0 0 l = []->[S l] = (sp y 0 l).map S:=fun h=>by
  rw [<- main,h]
  unfold Builtin.Str.partsBetween
  rw [hl]
  have:=jq (l:=l) (w:=y.length) [] 0
  refine Eq.trans ?_ this.symm
  simp [uG]
 unfold Txt.split
 have k1 : Builtin.Str.strKind (S y) = 1:=by
  unfold Builtin.Str.strKind
  rw [if_pos]
  simpa using hk
 have k2 : 1 <= Builtin.Str.strKind (S l):=by unfold Builtin.Str.strKind; split <;> (try split) <;> decide
 split
 ·rename_i h
  rw [Bool.or_eq_true,decide_eq_true_eq,decide_eq_true_eq,hl,hly,k1] at h
  exact none (tU l 0 0 (by omega))
 ·rw [zbb hy,hly]
  split
  ·rename_i h
   exact none (by simpa using h)
  ·exact main
def pt (y : W) : W->Option (W × W)
 | []=>none
 | c::r=>if y.isPrefixOf (c::r) = true then some ([],r.drop (y.length - 1)) else (pt y r).map fun p=>(c::p.1,p.2)
theorem T0 {l y : W} (hy : 0 < y.length) : ∀ (r : W) (i : Nat),l.drop i = r->(pt y r).map (fun p=>(l.take i++p.1,p.2)) = (occ y 0 i r).head?.map fun j=>(l.take j,l.drop (j + y.length))
 | [],i,_=>by simp [pt,occ]
 | c::r,i,e=>by
  have h1 : i < l.length:=by
   have:=congrArg List.length e
   simp at this; omega
  have e1 : l.drop (i + 1) = r:=by rw [<- List.drop_drop,e]; rfl
  rw [pt,occ]
  by_cases hp : y.isPrefixOf (c::r) = true
  ·rw [if_pos hp,if_pos hp]
   simp only [Option.map_some,List.head?_cons,List.append_nil]
   rw [<- e1,List.drop_drop,show i + 1 + (y.length - 1) = i + y.length by omega]
  ·rw [if_neg hp,if_neg hp,<- T0 hy r (i + 1) e1,Option.map_map]
   congr 1
   funext p
   simp only [Function.comp]
   have : l.take (i + 1) = l.take i++[c]:=by
    rw [List.take_succ]
    have : l[i]? = some c:=by
     have:=congrArg (·[0]?) e
     simpa using this
    rw [this]; rfl
   rw [this,List.append_assoc]; rfl
theorem Jo {l y : W} (hy : 0 < y.length) : t5 (S l) (S y) = match pt y l with | some p=>[S p.1,S y,S p.2] | none=>[S l,S [],S []]:=by
 have hl : (S l).length = l.length:=by show l.toArray.size = _; simp
 have hly : (S y).length = y.length:=by show y.toArray.size = _; simp
 have key:=T0 (l:=l) (y:=y) hy l 0 rfl
 unfold t5
 rw [Vu hy,hly,hl]
 cases ho : occ y 0 0 l with
 | nil=>
  rw [ho] at key
  cases hp : pt y l with
  | none=>rfl
  | some p=>rw [hp] at key; simp at key
 | cons j js=>
  rw [ho] at key
  cases hp : pt y l with
  | none=>rw [hp] at key; simp at key
  | some p=>
   rw [hp] at key
   simp only [Option.map_some,List.take_zero,List.nil_append,List.head?_cons,Option.some.injEq,Prod.mk.injEq] at key
   simp only [List.take_succ_cons,Builtin.Str.strSub,List.extract_toArray,List.extract_eq_drop_take,List.drop_zero,Nat.sub_zero]
   rw [key.1,key.2,List.take_of_length_le (l:=l.drop (j + y.length)) (by simp)]
theorem zE {n : Nat} (h : n <= 10000) : n <= sizeLine:=by rw [sizeLine_eq]; omega
theorem XG {n : Nat} (h : n <= 10000) : n < sizeLine:=by rw [sizeLine_eq]; omega
def yL (c : Nat) : Bool:=decide (97 <= c) && decide (c <= 122)
def XH (c : Nat) : Bool:=decide (65 <= c) && decide (c <= 90)
def figC (c : Nat) : Bool:=decide (48 <= c) && decide (c <= 57)
def zcM : D->Bool | .int _=>true | .str z=>decide (1 <= z.length) && decide (z.length <= 100) | _=>false
abbrev Z0 (d : D) : Prop:=zcM d = true
theorem Z0.flat {d : D} (h : Z0 d) : yW d = true:=by cases d <;> first | exact absurd h Bool.false_ne_true | rfl
theorem Z0.plain {n : Nat} {d : D} (h : Z0 d) : zB n d = true:=by cases d <;> cases n <;> first | exact absurd h Bool.false_ne_true | rfl
theorem Vv {xs : List D} (h : ∀ x ∈ xs,Z0 x) : xs.all (zB 8) = true:=List.all_eq_true.mpr fun x hx=>(h x hx).plain
theorem U3 {x y : D} (hx : Z0 x) (hy : Z0 y) : eqV (toV x) (toV y) = true ↔ x = y:=by
 cases x <;> first | exact absurd hx Bool.false_ne_true | (cases y <;> first | exact absurd hy Bool.false_ne_true | simp [toV,eqV])
theorem YU {x y : D} (hx : Z0 x) (hy : Z0 y) : eqA x y = true ↔ x = y:=by
 rw [xE hx.flat hy.flat]; exact U3 hx hy
theorem Jp {t : D} {xs : List D} (ht : Z0 t) (hx : ∀ x ∈ xs,Z0 x) : inA t xs = true ↔ t ∈ xs:=by
 unfold inA
 rw [List.any_eq_true]
 constructor
 ·rintro ⟨x,hm,e⟩
  rw [<- (YU (hx x hm) ht).mp e]; exact hm
 ·intro hm
  exact ⟨t,hm,(YU ht ht).mpr rfl⟩
theorem zbc {n : Bool} {t : D} {xs : List D} {R : D->Prop} (ht : zB 8 t = true) (hx : xs.all (zB 8) = true) (k : R (.bl (if n then !inA t xs else inA t xs))) : Op (inE n t (.tup xs)) R:=by
 refine zt ?_ k
 show (zaY n t (.tup xs)).or _ = _
 unfold zaY
 dsimp only
 rw [if_pos ⟨ht,hx⟩]
 rfl
theorem zbd {t : D} {xs : List D} {R : D->Prop} (ht : Z0 t) (hx : ∀ x ∈ xs,Z0 x) (k : ∀ b : Bool,(b = true ↔ t ∈ xs)->R (.bl b)) : Op (inE false t (.tup xs)) R:=zbc ht.plain (Vv hx) (k _ (Jp ht hx))
theorem Jq {n k : Nat} (h : k < n) : (wV 0 n)[k]? = some (.int (0 + (k : Int))):=by
 unfold wV
 rw [List.getElem?_map,List.getElem?_range h]
 rfl
theorem qF {n k : Nat} {x : D} (e : (wV 0 n)[k]? = some x) : k < n /\ x = .int k:=by
 have hk : k < n:=by
  have:=(List.getElem?_eq_some_iff.mp e).1
  simpa [wV] using this
 rw [Jq hk] at e
 cases e
 exact ⟨hk,by rw [Int.zero_add]⟩
theorem jr (n : Nat) : wV 0 n = (List.range n).map fun k : Nat=>D.int (k : Int):=by
 unfold wV
 simp
theorem xj {A B : Prop} {p : Prop} [Decidable p] (h1 : p->A) (h2 : ¬ p->B) : if decide p = true then A else B:=by
 by_cases h : p
 ·rw [if_pos (decide_eq_true h)]; exact h1 h
 ·rw [if_neg (by rw [decide_eq_false h]; exact Bool.false_ne_true)]; exact h2 h
theorem Jr {A B : Prop} (b : Bool) (h1 : b = true->A) (h2 : b = false->B) : if b = true then A else B:=by
 cases b with
 | true=>exact h1 rfl
 | false=>exact h2 rfl
theorem T3 {i : Int} {b : Bool} : Ts i (if b then 1 else 0):=Or.inr (by cases b <;> decide)
theorem Js {i j : Int} {R : D->Prop} (k : R (.bl (decide (i < j)))) : Op (ltE (.int i) (.int j)) R:=zt (by simp [ltE,zB,ltA]) k
theorem Vw (ns : List Int) (k : Nat) (hn : ns.length <= 63) (hk : k <= 63) : Op (M__law_cell [.lst (ns.map D.int),.int k]) fun r=>∃ c : Int,r = .sh (.int c):=by
 have mem : ∀ x ∈ ns.map D.int,∃ i : Int,x = .int i:=fun x hx=>let ⟨i,_,e⟩:=List.mem_map.mp hx; ⟨i,e.symm⟩
 unfold M__law_cell ui
 walk_at "wrun"
 walk_at "wpn"
 refine qm (fun δ=>δ = [some (.sh (.lst (ns.map D.int))),some (.sh (.int k)),none]) ?_ ?_
 ·walk_at "wp"
  refine Js ?_
  walk_at "wp"
  refine xj (fun h=>?_) fun h=>?_
  ·walk_at "wp"
   refine v8 (by omega) h fun x hx=>?_
   obtain ⟨i,rfl⟩:=mem x hx
   walk_at "wp"
   exact ⟨i,rfl⟩
  ·walk_at "wp"
   rfl
 ·rintro δ rfl
  walk_at "wpn"
  refine qm (fun δ=>∃ m : Int,δ = [some (.sh (.lst (ns.map D.int))),some (.sh (.int k)),some (.sh (.int m))] /\ 0 <= m /\ m < 2 ^ 40) ?_ ?_
  ·walk_at "wp"
   refine xj (fun h=>?_) fun h=>?_
   ·walk_at "wp"
    try refine o_mod h ?_
    refine v8 (Int.emod_nonneg _ (by omega)) (Int.emod_lt_of_pos _ h) fun x hx=>?_
    obtain ⟨i,rfl⟩:=mem x hx
    walk_at "wp"
    exact ⟨_,rfl,Int.emod_nonneg _ (by decide),Int.lt_trans (Int.emod_lt_of_pos _ (by decide)) (by decide)⟩
   ·walk_at "wp"
    exact ⟨_,rfl,by omega,by omega⟩
  ·rintro δ ⟨m,rfl,h0,h1⟩
   walk_at "wp"
   try refine o_mul (Or.inl ⟨by omega,by omega⟩) ?_
   walk_at "wp"
   exact ⟨_,rfl⟩
theorem YV (c : Int) (n : Nat) (hn : n <= 100) : Op (M__law_stream [.int c,.int n]) fun r=>∃ zs : List Int,r = .fr (.lst (zs.map D.int)) /\ zs.length = n:=by
 unfold M__law_stream xm
 walk_at "wrun"
 walk_at "wp"
 refine ⟨Nat.zero_le _,?_⟩
 walk_at "wp"
 refine ⟨by omega,?_⟩
 rw [Int.toNat_natCast]
 refine xH (fun k δ=>∃ (zs : List Int) (m : Int) (x : Option Sl),δ = [some (.sh (.int c)),some (.sh (.int n)),some (.pv (.lst (zs.map D.int)) none),some (.sh (.int m)),x] /\ zs.length = k) ⟨[],_,_,rfl,rfl⟩ ?_ ?_
 ·rintro k x hk δ ⟨zs,m,y,rfl,hz⟩
  obtain ⟨hkn,rfl⟩:=qF hk
  dsimp only [List.set]
  walk_at "wp"
  refine xj (fun h=>?_) fun h=>?_
  ·walk_at "wp"
   refine ⟨XG (by rw [List.length_map]; omega),?_⟩
   walk_at "wp"
   exact ⟨zs++[_],_,_,by rw [List.map_append]; rfl,by simp [hz]⟩
  ·walk_at "wp"
   refine ⟨XG (by rw [List.length_map]; omega),?_⟩
   walk_at "wp"
   exact ⟨zs++[_],_,_,by rw [List.map_append]; rfl,by simp [hz]⟩
 ·rintro δ ⟨zs,m,y,rfl,hz⟩
  walk_at "wp"
  exact ⟨zs,rfl,by rw [hz]; simp [wV]⟩
theorem Jt {s : Str} {i : Int} {R : D->Prop} (hs : s.length <= 100) (h0 : 0 <= i) (h1 : i < s.length) (q : ∀ c ∈ s.cps.toList,R (.str ⟨#[c]⟩)) : Op (ixA (.str s) (.int i)) R:=by
 obtain ⟨n,rfl⟩ : ∃ n : Nat,i = n:=⟨i.toNat,by omega⟩
 have hn : n < s.cps.toList.length:=by rw [Array.length_toList]; exact Int.ofNat_lt.mp h1
 refine zt (d:=.str ⟨#[s.cps.toList[n]]⟩) ?_ (q _ (List.getElem_mem hn))
 show (if s.length <= sizeLine then (atI s.cps.toList (n : Int)).map (fun c=>D.str ⟨#[c]⟩) else none) = _
 rw [if_pos (zE (by omega)),ZA (List.getElem?_eq_getElem hn)]
 rfl
theorem Ju : ("abcdefghijklmnopqrstuvwxyz" : Str).cps.toList = List.range' 97 26:=by decide +kernel
theorem Jv : ("ABCDEFGHIJKLMNOPQRSTUVWXYZ" : Str).cps.toList = List.range' 65 26:=by decide +kernel
theorem U4 : ("abcdefghijklmnopqrstuvwxyz0123456789ABCDEFGHIJKLMNOPQRSTUVWXYZ" : Str).cps.toList = List.range' 97 26++List.range' 48 10++List.range' 65 26:=by decide +kernel
theorem U5 {c : Nat} (h : c ∈ ("abcdefghijklmnopqrstuvwxyz" : Str).cps.toList) : yL c = true:=by
 rw [Ju,List.mem_range'_1] at h
 unfold yL
 rw [Bool.and_eq_true,decide_eq_true_iff,decide_eq_true_iff]
 omega
theorem T4 {c : Nat} (h : c ∈ ("ABCDEFGHIJKLMNOPQRSTUVWXYZ" : Str).cps.toList) : XH c = true:=by
 rw [Jv,List.mem_range'_1] at h
 unfold XH
 rw [Bool.and_eq_true,decide_eq_true_iff,decide_eq_true_iff]
 omega
theorem Jw {c : Nat} (h : c ∈ ("abcdefghijklmnopqrstuvwxyz0123456789ABCDEFGHIJKLMNOPQRSTUVWXYZ" : Str).cps.toList) : (yL c || (XH c || figC c)) = true:=by
 rw [U4,List.mem_append,List.mem_append,List.mem_range'_1,List.mem_range'_1,List.mem_range'_1] at h
 unfold yL XH figC
 simp only [Bool.or_eq_true,Bool.and_eq_true,decide_eq_true_iff]
 omega
theorem zbe {ls : List Nat} {R : D->Prop} (hl : ls.length <= 100) (k : R (.str ⟨ls.toArray⟩)) : Op (uB (.str "") (.lst (ls.map fun c=>.str ⟨#[c]⟩))) R:=by
 refine zt ?_ k
 have e : ∀ ls : List Nat,xF (ls.map fun c=>D.str ⟨#[c]⟩) = some (ls.map fun c=>(⟨#[c]⟩ : Str)):=by
  intro ls
  induction ls with
  | nil=>rfl
  | cons c cs ih=>rw [List.map_cons]; unfold xF; rw [ih]; rfl
 have s : ((ls.map fun c=>(⟨#[c]⟩ : Str)).map fun y=>y.length).sum = ls.length:=by
  clear hl k e
  induction ls with
  | nil=>rfl
  | cons c cs ih=>rw [List.map_cons,List.map_cons,List.sum_cons,ih,List.length_cons,Nat.add_comm]; rfl
 have z : ("" : Str) = ⟨#[]⟩:=by decide +kernel
 show (xF _).bind _ = _
 rw [e,Option.bind_some,s,z,if_pos (by show ls.length + _ * 0 <= _; omega)]
 congr 2
 show Builtin.Str.glued ⟨#[]⟩ _ = _
 rw [StrLaws.glued_eq_join]
 exact join_ones ls
theorem Z1 {n : Nat} {ys : List D} (h : ∀ y ∈ ys,∃ c : Nat,y = .str ⟨#[c]⟩ /\ yL c = true) : ∃ ls : List Nat,ys = ls.map (fun c=>D.str ⟨#[c]⟩) /\ ∀ c ∈ ls,yL c = true:=by
 induction ys with
 | nil=>exact ⟨[],rfl,fun c h=>nomatch h⟩
 | cons y ys ih=>
  obtain ⟨ls,rfl,h2⟩:=ih fun z hz=>h z (List.mem_cons_of_mem _ hz)
  obtain ⟨c,rfl,hc⟩:=h y List.mem_cons_self
  exact ⟨c::ls,rfl,fun d hd=>(List.mem_cons.mp hd).elim (fun e=>e ▸ hc) (h2 d)⟩
theorem add_str {a b : Str} (h : a.length + b.length <= sizeLine) : addD (.str a) (.str b) = some (.str (a++b)):=by
 unfold addD sAdd iAdd
 simp only [Option.none_or,if_pos h]
 rfl
def jB : List W->W
 | []=>[]
 | [w]=>w
 | w::x::r=>w++32::jB (x::r)
def NB (ws : List W) : Prop:=∀ w ∈ ws,32 ∉ w
theorem NB.head {w : W} {ws : List W} (h : NB (w::ws)) : 32 ∉ w:=h w List.mem_cons_self
theorem NB.tail {w : W} {ws : List W} (h : NB (w::ws)) : NB ws:=fun x hx=>h x (List.mem_cons_of_mem _ hx)
theorem zdh {c : Nat} {r : W} : [32].isPrefixOf (c::r) = (32 == c):=by simp [List.isPrefixOf]
theorem Z2 : ∀ {w : W} {r : W},32 ∉ w->sp [32] 0 (w++r) = xJ w (sp [32] 0 r)
 | [],r,_=>by rw [List.nil_append,tT _ (U1 _ _ _)]
 | c::w,r,h=>by
  have hc : ¬ (32 == c) = true:=by intro e; exact h (by rw [beq_iff_eq.mp e]; exact List.mem_cons_self)
  rw [List.cons_append,sp,zdh,if_neg hc,Z2 fun x=>h (List.mem_cons_of_mem _ x),xK]
  rfl
theorem zbf {w : W} (h : 32 ∉ w) : sp [32] 0 w = [w]:=by
 have:=Z2 (w:=w) (r:=[]) h
 rw [List.append_nil] at this
 rw [this]; simp [sp,xJ]
theorem U6 : ∀ {ws : List W},ws ≠ []->NB ws->sp [32] 0 (jB ws) = ws
 | [w],_,h=>zbf h.head
 | w::x::r,_,h=>by
  rw [jB,Z2 h.head,sp,zdh,if_pos (by rfl)]
  rw [show ([32] : W).length - 1 = 0 from rfl,U6 (by simp) h.tail]
  simp [xJ]
def yIf : W:=[32,105,102,32]
def wIf : W:=[105,102]
def ptW : List W->Option (List W × List W)
 | []=>none
 | [_]=>none
 | w::x::r=>if x = wIf /\ r ≠ [] then some ([w],r) else (ptW (x::r)).map fun p=>(w::p.1,p.2)
theorem Z3 : ∀ {w r : W},32 ∉ w->pt yIf (w++r) = (pt yIf r).map fun p=>(w++p.1,p.2)
 | [],r,_=>by simp
 | c::w,r,h=>by
  have hc : ¬ yIf.isPrefixOf (c::(w++r)) = true:=by
   intro e
   have : (32 == c && [105,102,32].isPrefixOf (w++r)) = true:=e
   rw [Bool.and_eq_true] at this
   exact h (by rw [beq_iff_eq.mp this.1]; exact List.mem_cons_self)
  rw [List.cons_append,pt,if_neg hc,Z3 fun x=>h (List.mem_cons_of_mem _ x),Option.map_map]
  rfl
theorem T5 {x : W} {r : List W} (h : 32 ∉ x) : [105,102,32].isPrefixOf (jB (x::r)) = true ↔ x = wIf /\ r ≠ []:=by
 have shape : jB (x::r) = x++(match r with | []=>[] | _::_=>32::jB r):=by cases r <;> simp [jB]
 rw [shape]
 constructor
 ·intro e
  match x,h with
  | [],_=>cases r <;> simp [List.isPrefixOf] at e
  | [a],_=>cases r <;> simp [List.isPrefixOf] at e
  | [a,b],_=>
   cases r with
   | nil=>simp [List.isPrefixOf] at e
   | cons y r=>simp [List.isPrefixOf] at e; exact ⟨by rw [<- e.1,<- e.2]; rfl,by simp⟩
  | a::b::c::x,h=>
   simp [List.isPrefixOf] at e
   exact absurd (by rw [<- e.2.2]; simp) h
 ·rintro ⟨rfl,hr⟩
  cases r with
  | nil=>exact absurd rfl hr
  | cons y r=>simp [wIf,List.isPrefixOf]
theorem Vx : ∀ {ws : List W} {p : List W × List W},ptW ws = some p->p.1 ≠ [] /\ p.2 ≠ []
 | [],_,h=>by simp [ptW] at h
 | [_],_,h=>by simp [ptW] at h
 | w::x::r,p,h=>by
  rw [ptW] at h
  split at h
  ·rename_i c; cases h; exact ⟨by simp,c.2⟩
  ·obtain ⟨q,e,rfl⟩:=omE h
   exact ⟨by simp,(Vx e).2⟩
theorem zbg : ∀ {ws : List W},ws ≠ []->NB ws->pt yIf (jB ws) = (ptW ws).map fun p=>(jB p.1,jB p.2)
 | [w],_,h=>by
  have:=Z3 (w:=w) (r:=[]) h.head
  rw [List.append_nil] at this
  rw [jB,this]; simp [pt,ptW]
 | w::x::r,_,h=>by
  rw [jB,Z3 h.head,pt,ptW]
  have e : yIf.isPrefixOf (32::jB (x::r)) = [105,102,32].isPrefixOf (jB (x::r)):=by
   show (32 == 32 && [105,102,32].isPrefixOf (jB (x::r))) = _
   simp
  by_cases c : x = wIf /\ r ≠ []
  ·rw [e,if_pos ((T5 h.tail.head).mpr c),if_pos c]
   obtain ⟨rfl,hr⟩:=c
   simp only [Option.map_some]
   cases r with
   | nil=>exact absurd rfl hr
   | cons y r=>simp [jB,wIf,yIf]
  ·rw [e,if_neg (fun z=>c ((T5 h.tail.head).mp z)),if_neg c,zbg (by simp) h.tail,Option.map_map,Option.map_map,Option.map_map]
   cases hp : ptW (x::r) with
   | none=>rfl
   | some p=>
    have:=(Vx hp).1
    simp only [Option.map_some,Function.comp]
    cases e1 : p.1 with
    | nil=>exact absurd e1 this
    | cons u us=>simp [jB]
def yCo : W:=[44,32]
def Z4 (w : W) : List (List W)->List (List W) | p::ps=>(w::p)::ps | []=>[[w]]
def bpW : List W->List (List W)
 | []=>[[]]
 | [w]=>[[w]]
 | w::x::r=>if w.getLast? = some 44 then [w.dropLast]::bpW (x::r) else Z4 w (bpW (x::r))
theorem Vy : ∀ {w r : W},32 ∉ w->sp yCo 0 (w++32::r) = if w.getLast? = some 44 then w.dropLast::sp yCo 0 r else xJ (w++[32]) (sp yCo 0 r)
 | [],r,_=>by
  rw [List.nil_append,sp,if_neg (by simp [yCo,List.isPrefixOf])]
  simp
 | [c],r,h=>by
  rw [List.cons_append,sp]
  by_cases hc : c = 44
  ·subst hc
   rw [if_pos (by simp [yCo,List.isPrefixOf])]
   simp [yCo,sp]
  ·rw [if_neg (by simp [yCo,List.isPrefixOf]; omega),if_neg (by simp; exact hc),List.nil_append,sp,if_neg (by simp [yCo,List.isPrefixOf]),xK]
 | c::d::w,r,h=>by
  have hd : d ≠ 32:=fun e=>h (by rw [e]; simp)
  rw [List.cons_append,sp,if_neg (by simp [yCo,List.isPrefixOf]; intro _ e; exact hd e.symm),Vy (w:=d::w) fun x=>h (List.mem_cons_of_mem _ x)]
  rw [show (c::d::w).getLast? = (d::w).getLast? from by simp]
  split
  ·simp [xJ]
  ·rw [xK]; rfl
theorem Vz : ∀ {w : W},32 ∉ w->sp yCo 0 w = [w]
 | [],_=>by simp [sp]
 | [c],h=>by rw [sp,if_neg (by simp [yCo,List.isPrefixOf])]; simp [sp,xJ]
 | c::d::w,h=>by
  have hd : d ≠ 32:=fun e=>h (by rw [e]; simp)
  rw [sp,if_neg (by simp [yCo,List.isPrefixOf]; intro _ e; exact hd e.symm),Vz (w:=d::w) fun x=>h (List.mem_cons_of_mem _ x)]
  rfl
theorem YW : ∀ {ws : List W},ws ≠ []->bpW ws ≠ [] /\ ∀ p ∈ bpW ws,p ≠ []
 | [w],_=>by simp [bpW]
 | w::x::r,_=>by
  obtain ⟨h1,h2⟩:=YW (ws:=x::r) (by simp)
  rw [bpW]
  split
  ·exact ⟨by simp,fun p hp=>(List.mem_cons.mp hp).elim (fun e=>by rw [e]; simp) (h2 p)⟩
  ·cases e : bpW (x::r) with
   | nil=>exact absurd e h1
   | cons q qs=>
    refine ⟨by simp [Z4],fun p hp=>?_⟩
    rcases List.mem_cons.mp hp with rfl | hp
    ·simp
    ·exact h2 p (by rw [e]; exact List.mem_cons_of_mem _ hp)
theorem T6 : ∀ {ws : List W},NB ws->∀ p ∈ bpW ws,NB p
 | [],_=>by intro p hp; simp [bpW] at hp; subst hp; intro w hw; cases hw
 | [w],h=>by intro p hp; simp [bpW] at hp; subst hp; exact h
 | w::x::r,h=>by
  have ih:=T6 h.tail
  intro p hp
  rw [bpW] at hp
  split at hp
  ·rcases List.mem_cons.mp hp with rfl | hp
   ·intro u hu
    rw [List.mem_singleton.mp hu]
    exact fun z=>h.head (List.dropLast_subset _ z)
   ·exact ih p hp
  ·cases e : bpW (x::r) with
   | nil=>rw [e] at hp; simp [Z4] at hp; subst hp; intro u hu; rw [List.mem_singleton.mp hu]; exact h.head
   | cons q qs=>
    rw [e] at hp
    rcases List.mem_cons.mp hp with rfl | hp
    ·intro u hu
     rcases List.mem_cons.mp hu with rfl | hu
     ·exact h.head
     ·exact ih q (by rw [e]; exact List.mem_cons_self) u hu
    ·exact ih p (by rw [e]; exact List.mem_cons_of_mem _ hp)
theorem zbh : ∀ {ws : List W},ws ≠ []->NB ws->sp yCo 0 (jB ws) = (bpW ws).map jB
 | [w],_,h=>by rw [jB,Vz h.head]; rfl
 | w::x::r,_,h=>by
  rw [jB,Vy h.head,bpW,zbh (by simp) h.tail]
  split
  ·simp [jB]
  ·cases e : bpW (x::r) with
   | nil=>exact absurd e (YW (by simp)).1
   | cons q qs=>
    have:=(YW (ws:=x::r) (by simp)).2 q (by rw [e]; exact List.mem_cons_self)
    cases q with
    | nil=>exact absurd rfl this
    | cons u us=>simp [Z4,xJ,jB]
theorem T7 (a b : Nat) : decide ([a] < [b]) = decide (a < b):=by
 by_cases h : a < b
 ·rw [decide_eq_true h,decide_eq_true]
  exact List.Lex.rel h
 ·rw [decide_eq_false h,decide_eq_false]
  intro z
  cases z with
  | rel q=>exact h q
  | cons q=>cases q
theorem leC (a : Str) (x c : Nat) (ha : a.cps.toList = [x]) : leD (.str a) (.str ⟨#[c]⟩) = some (.bl (decide (x <= c))):=by
 show some (D.bl (!decide ((⟨#[c]⟩ : Str).cps.toList < a.cps.toList))) = _
 rw [ha]
 show some (D.bl (!decide ([c] < [x]))) = _
 rw [T7]
 by_cases h : c < x
 ·simp [h,Nat.not_le.mpr h]
 ·simp [h,Nat.not_lt.mp h]
theorem zdG (a : Str) (x c : Nat) (ha : a.cps.toList = [x]) : leD (.str ⟨#[c]⟩) (.str a) = some (.bl (decide (c <= x))):=by
 show some (D.bl (!decide (a.cps.toList < (⟨#[c]⟩ : Str).cps.toList))) = _
 rw [ha]
 show some (D.bl (!decide ([x] < [c]))) = _
 rw [T7]
 by_cases h : x < c
 ·simp [h,Nat.not_le.mpr h]
 ·simp [h,Nat.not_lt.mp h]
theorem Z5 {R : D->Prop} {f : FE} {δ : En} (a b : Str) (x y c : Nat) (ha : a.cps.toList = [x]) (hb : b.cps.toList = [y]) (hf : f δ = some (.str ⟨#[c]⟩)) (k : R (.bl (decide (x <= c) && decide (c <= y)))) :
  Op (f3 leD leD (fC (.str a)) f (fC (.str b)) δ) R:=by
 refine zt ?_ k
 simp only [f3,fC,hf,Option.bind_some,leC a x c ha]
 cases decide (x <= c) with
 | false=>rfl
 | true=>simp only [zdG b y c hb,Bool.true_and]
theorem VA (c : Nat) : M_is_small [.str ⟨#[c]⟩] = some (.sh (.bl (yL c))):=by
 refine Op.eq ?_
 unfold M_is_small tN
 walk_at "wrun"
 refine so_seq (so_ret (op_sh (Z5 _ _ 97 122 c (by decide +kernel) (by decide +kernel) rfl ?_)))
 rfl
theorem zbi (c : Nat) : M_is_big [.str ⟨#[c]⟩] = some (.sh (.bl (XH c))):=by
 refine Op.eq ?_
 unfold M_is_big kO
 walk_at "wrun"
 refine so_seq (so_ret (op_sh (Z5 _ _ 65 90 c (by decide +kernel) (by decide +kernel) rfl ?_)))
 rfl
theorem zbj (c : Nat) : M_is_figure [.str ⟨#[c]⟩] = some (.sh (.bl (figC c))):=by
 refine Op.eq ?_
 unfold M_is_figure ue
 walk_at "wrun"
 refine so_seq (so_ret (op_sh (Z5 _ _ 48 57 c (by decide +kernel) (by decide +kernel) rfl ?_)))
 rfl
theorem yP {w : W} : (S w).length = w.length:=by show w.toArray.size = _; simp
theorem zbk {w : W} {R : D->Prop} (h : w.length <= 10000) (k : R (.int w.length)) : Op (lenD [.str (S w)]) R:=by
 refine zt ?_ k
 show (if (S w).length <= sizeLine then some (D.int (S w).length) else none) = _
 rw [if_pos (by rw [yP]; exact zE h),yP]
def shB (w : W) : Bool:=decide (1 <= w.length) && decide (w.length <= 8)
theorem VB {w : W} (h : w.length <= 10000) : M_is_short_text [.str (S w)] = some (.sh (.bl (shB w))):=by
 refine Op.eq ?_
 unfold M_is_short_text xS
 walk_at "wrun"
 walk_at "wp"
 refine ⟨rfl,?_⟩
 walk_at "wp"
 refine zbk h ?_
 walk_at "wp"
 unfold shB
 refine xj (fun c=>?_) fun c=>?_
 ·walk_at "wp"
  rw [decide_eq_true (show 1 <= w.length by omega)]
  have : decide ((w.length : Int) <= 8) = decide (w.length <= 8):=decide_eq_decide.mpr (by omega)
  refine zt (d:=.bl (decide ((w.length : Int) <= 8))) rfl ?_
  rw [this]; rfl
 ·walk_at "wp"
  rw [decide_eq_false (show ¬ 1 <= w.length by omega)]
  rfl
theorem Z6 (w : W) : L2.signs (S w) = w.map fun c=>D.str ⟨#[c]⟩:=by
 unfold L2.signs
 rfl
theorem all_map {α : Type} (p : α->Bool) (xs : List α) {R : D->Prop} (k : R (.bl (xs.all p))) : Op (allD [.lst (xs.map fun x=>.bl (p x))]) R:=by
 refine zt ?_ k
 show (ZF (xs.map fun x=>D.bl (p x))).map (fun bs=>D.bl (bs.all id)) = _
 rw [kG,Option.map_some,List.all_map]
 rfl
def kws : List W:=[[110,111,116],[105,102],[117,110,100,101,114],[117,110,108,105,107,101],[115,117,109],[108,101,97,115,116],[99,111,117,110,116]]
theorem YX : tM = .tup (kws.map fun k=>.str (S k)):=by
 unfold tM kws
 simp only [List.map_cons,List.map_nil]
 rfl
theorem VC {v w : W} : S v = S w ↔ v = w:=⟨fun h=>by have:=congrArg (fun z : Str=>z.cps.toList) h; simpa using this,fun h=>by rw [h]⟩
theorem zbl {w : W} {ks : List W} : D.str (S w) ∈ (ks.map fun k=>D.str (S k)) ↔ w ∈ ks:=by
 rw [List.mem_map]
 constructor
 ·rintro ⟨k,hk,e⟩
  have e:=D.str.inj e
  rw [<- VC.mp e]; exact hk
 ·intro h; exact ⟨w,h,rfl⟩
theorem VD {w : W} (h1 : 1 <= w.length) (h2 : w.length <= 100) : Z0 (.str (S w)):=by
 show (decide (1 <= (S w).length) && decide ((S w).length <= 100)) = true
 rw [yP,decide_eq_true h1,decide_eq_true h2]; rfl
def nmB (w : W) : Bool:=shB w && (!decide (w ∈ kws)) && w.all yL
theorem YY : ∀ x ∈ (kws.map fun k=>D.str (S k)),Z0 x:=by
 intro x hx
 obtain ⟨k,hk,rfl⟩:=List.mem_map.mp hx
 have : ∀ k ∈ kws,1 <= k.length /\ k.length <= 100:=by decide
 exact VD (this k hk).1 (this k hk).2
theorem vX {w : W} : shB w = true ↔ 1 <= w.length /\ w.length <= 8:=by unfold shB; rw [Bool.and_eq_true,decide_eq_true_iff,decide_eq_true_iff]
theorem Zd {w : W} (h : w.length <= 10000) : M_is_name [.str (S w)] = some (.sh (.bl (nmB w))):=by
 refine Op.eq ?_
 unfold M_is_name qv
 walk_at "wrun"
 walk_at "wp"
 refine zt (VB h) ?_
 walk_at "wp"
 unfold nmB
 cases hs : shB w with
 | false=>walk_at "wp"; rfl
 | true=>
  obtain ⟨h1,h2⟩:=vX.mp hs
  walk_at "wp"
  rw [YX]
  refine zbd (VD h1 (by omega)) YY fun b hb=>?_
  rw [zbl] at hb
  walk_at "wp"
  have eb : b = decide (w ∈ kws):=by
   by_cases c : w ∈ kws
   ·rw [decide_eq_true c]; exact hb.mpr c
   ·rw [decide_eq_false c]; cases b with | false=>rfl | true=>exact absurd (hb.mp rfl) c
  rw [<- eb]
  cases b with
  | true=>walk_at "wp"; rfl
  | false=>
   walk_at "wp"
   rw [Z6]
   refine ⟨zE (by rw [List.length_map]; omega),yz (hh:=fun c=>.bl (yL c)) (fun c _=>?_) ?_⟩
   ·walk_at "wp"
    refine zt (VA c) ?_
    walk_at "wp"
    rfl
   ·walk_at "wp"
    refine all_map yL w ?_
    rfl
def anC (c : Nat) : Bool:=yL c || (XH c || figC c)
def hdB : W->Bool | []=>false | c::_=>XH c
def vrB (w : W) : Bool:=shB w && hdB w && w.all anC
theorem zdi {c : Nat} {w : W} {R : D->Prop} (h : w.length <= 100) (k : R (.str ⟨#[c]⟩)) : Op (ixA (.str (S (c::w))) (.int 0)) R:=by
 refine zt ?_ k
 have e : (S (c::w)).cps.toList = c::w:=by simp
 show ixD (.str (S (c::w))) (.int 0) = _
 simp [ixD,atI,ixN]
 exact zE (by rw [yP]; simp; omega)
theorem Jx {w : W} (h : w.length <= 10000) : M_is_variable [.str (S w)] = some (.sh (.bl (vrB w))):=by
 refine Op.eq ?_
 unfold M_is_variable wL
 walk_at "wrun"
 walk_at "wp"
 refine zt (VB h) ?_
 walk_at "wp"
 unfold vrB
 cases hs : shB w with
 | false=>walk_at "wp"; rfl
 | true=>
  obtain ⟨h1,h2⟩:=vX.mp hs
  walk_at "wp"
  cases w with
  | nil=>simp at h1
  | cons c w=>
   refine zdi (by simp at h2; omega) ?_
   walk_at "wp"
   refine zt (zbi c) ?_
   walk_at "wp"
   rw [show hdB (c::w) = XH c from rfl]
   cases XH c with
   | false=>walk_at "wp"; rfl
   | true=>
    walk_at "wp"
    rw [Z6]
    refine ⟨zE (by rw [List.length_map]; omega),yz (hh:=fun c=>.bl (anC c)) (fun c _=>?_) ?_⟩
    ·walk_at "wp"
     refine zt (VA c) ?_
     walk_at "wp"
     unfold anC
     cases yL c with
     | true=>walk_at "wp"; rfl
     | false=>
      walk_at "wp"
      refine zt (zbi c) ?_
      walk_at "wp"
      cases XH c with
      | true=>walk_at "wp"; rfl
      | false=>
       walk_at "wp"
       refine zt (zbj c) ?_
       walk_at "wp"
       rfl
    ·walk_at "wp"
     refine all_map anC _ ?_
     rfl
theorem qG {l : W} : ∀ (k a : Nat),a + k <= l.length->(List.range' a k).filterMap (fun i=>(S l).cps[i]?) = (l.drop a).take k
 | 0,a,_=>by simp
 | k + 1,a,h=>by
  have ha : a < l.length:=by omega
  rw [List.range'_succ,List.filterMap_cons,List.drop_eq_getElem_cons ha,List.take_succ_cons]
  have : (S l).cps[a]? = some l[a]:=by simp [ha]
  rw [this]
  dsimp only
  rw [qG k (a + 1) (by omega)]
theorem zcN {a b : Nat} : sliceRange (a : Int) (b : Int) 1 = List.range' a (b - a):=by
 unfold sliceRange
 have c : ((if (1 : Int) > 0 then (if (a : Int) < (b : Int) then ((b : Int) - a + 1 - 1) / 1 else 0) else (if (a : Int) > b then ((a : Int) - b - 1 - 1) / (-1) else 0)) : Int).toNat = b - a:=by
  rw [if_pos (by decide)]
  split <;> simp <;> omega
 dsimp only
 rw [c,List.range'_eq_map_range]
 apply List.map_congr_left
 intro k _
 omega
theorem U7 {n i : Nat} (h : i <= n) : Builtin.Str.strSliceIndices (some (i : Int)) none 1 n = List.range' i (n - i):=by
 have e : Builtin.Str.strSliceIndices (some (i : Int)) none 1 n = sliceRange (max 0 (min (if (i : Int) < 0 then (i : Int) + n else i) n)) n 1:=rfl
 rw [e,if_neg (show ¬ (i : Int) < 0 by omega),show max 0 (min (i : Int) (n : Int)) = i by omega,zcN]
theorem qH {l : W} {i : Nat} (h : i <= l.length) : Txt.slice (S l) (some (i : Int)) none = S (l.drop i):=by
 unfold Txt.slice
 rw [yP,U7 h]
 split
 ·rename_i c
  have : l.length - i = l.length:=by simpa using c
  by_cases hi : i = 0
  ·subst hi; rfl
  ·have : l = []:=List.eq_nil_of_length_eq_zero (by omega)
   subst this; simp
 ·rw [qG _ _ (by omega),List.take_of_length_le (by simp)]
def uS : W->W | 45::r=>r | w=>w
def qI (w : W) : Bool:=(decide (1 <= (uS w).length) && decide ((uS w).length <= 30)) && (uS w).all figC && (!((uS w).head? == some 48) || w == [48])
theorem U8 {w : W} {R : D->Prop} (k : R (.bl (w.head? == some 45))) : Op (ji (.str (S w)) (.str "-")) R:=by
 refine zt ?_ k
 show some (D.bl (Txt.startswith (S w) "-")) = _
 congr 2
 have hm : ("-" : Str) = S [45]:=by decide +kernel
 rw [hm]
 unfold Txt.startswith Builtin.Str.subAt
 cases w with
 | nil=>rfl
 | cons c w=>
  have e : (S (c::w)).cps.extract 0 (0 + (S [45]).length) = #[c]:=by
   show (c::w).toArray.extract 0 1 = _
   simp [List.extract_toArray,List.extract_eq_drop_take]
  rw [e,yP,yP]
  have : decide (0 + ([45] : W).length <= (c::w).length) = true:=decide_eq_true (by simp)
  rw [this,Bool.true_and]
  show (#[c] == #[45]) = _
  by_cases h : c = 45
  ·subst h; rfl
  ·have h1 : (#[c] == #[45]) = false:=by simpa using h
   have h2 : ((c::w).head? == some 45) = false:=by simpa using h
   rw [h1,h2]
theorem eqS {v w : W} {R : D->Prop} (k : R (.bl (decide (v = w)))) : Op (eqO false (.str (S v)) (.str (S w))) R:=by
 refine zt ?_ k
 show some (D.bl (decide (V.str (S v) = V.str (S w)))) = _
 congr 2
 exact decide_eq_decide.mpr ⟨fun h=>VC.mp (V.str.inj h),fun h=>by rw [h]⟩
theorem neS {v w : W} {R : D->Prop} (k : R (.bl (!decide (v = w)))) : Op (neE (.str (S v)) (.str (S w))) R:=by
 refine za7 ?_
 refine zt ?_ k
 show some (D.bl (!decide (V.str (S v) = V.str (S w)))) = _
 congr 3
 exact decide_eq_decide.mpr ⟨fun h=>VC.mp (V.str.inj h),fun h=>by rw [h]⟩
theorem T8 {f : FE} {l h : En->Option (Option Int)} {δ : En} {R : D->Prop} (k : Op (f δ) fun x=>Op (l δ) fun lo=>Op (h δ) fun hi=>∃ z,x = .str z /\ z.length <= sizeLine /\ R (.str (Txt.slice z lo hi))) : Op (Jj f l h δ) R:=by
 obtain ⟨x,e1,lo,e2,hi,e3,z,rfl,hz,k⟩:=k
 exact ⟨_,by unfold Jj; rw [e1,Option.bind_some,e2,Option.bind_some,e3,Option.bind_some]; dsimp only; rw [if_pos hz],k⟩
theorem zcO {w : W} (h : w.length <= 10000) : M_is_numeral [.str (S w)] = some (.sh (.bl (qI w))):=by
 refine Op.eq ?_
 unfold M_is_numeral vp
 walk_at "wrun"
 walk_at "wpn"
 refine U8 ?_
 walk_at "wpn"
 have fl : (uS w).length <= w.length:=by unfold uS; split <;> simp
 have setF : ∀ {R : D->Prop},R (.str (S (uS w)))->(if (w.head? == some 45) = true then Op (Jj (zj 0) (wU (fC (.int 1))) (fun _=>some none) [some (.sh (.str (S w))),none]) R else Op (zU 0 [some (.sh (.str (S w))),none]) R):=by
  intro R k
  cases w with
  | nil=>walk_at "wp"; exact k
  | cons c w=>
   by_cases hc : c = 45
   ·subst hc
    rw [if_pos (by simp)]
    refine T8 ?_
    walk_at "wp"
    refine ⟨_,rfl,by rw [yP]; exact zE (by omega),?_⟩
    have:=qH (l:=45::w) (i:=1) (by simp)
    rw [show ((1 : Nat) : Int) = 1 from rfl] at this
    rw [this]
    exact k
   ·rw [if_neg (by simpa using hc)]
    walk_at "wp"
    have : uS (c::w) = c::w:=by
     unfold uS
     split
     ·rename_i e; cases e; exact absurd rfl hc
     ·rfl
    rw [this] at k
    exact k
 refine setF ?_
 walk_at "wp"
 refine zbk (by omega) ?_
 walk_at "wp"
 unfold qI
 generalize hF : uS w = F at *
 refine xj (fun c=>?_) fun c=>?_
 ·rw [decide_eq_true (show 1 <= F.length by omega)]
  walk_at "wp"
  refine zt (d:=.bl (decide (F.length <= 30))) (by show some (D.bl (decide ((F.length : Int) <= 30))) = _; congr 2; exact decide_eq_decide.mpr (by omega)) ?_
  walk_at "wp"
  cases h30 : decide (F.length <= 30) with
  | false=>walk_at "wp"; rfl
  | true=>
   walk_at "wp"
   rw [Z6]
   refine ⟨zE (by rw [List.length_map]; omega),yz (hh:=fun c=>.bl (figC c)) (fun c _=>?_) ?_⟩
   ·walk_at "wp"
    refine zt (zbj c) ?_
    walk_at "wp"
    rfl
   ·walk_at "wp"
    refine all_map figC _ ?_
    walk_at "wp"
    cases F.all figC with
    | false=>walk_at "wp"; rfl
    | true=>
     walk_at "wp"
     cases F with
     | nil=>simp at c
     | cons d F=>
      refine zdi (by have:=of_decide_eq_true h30; simp at this; omega) ?_
      walk_at "wp"
      have z0 : ("0" : Str) = S [48]:=by decide +kernel
      rw [z0]
      refine neS (v:=[d]) ?_
      walk_at "wp"
      have e1 : decide ([d] = [48]) = ((d::F).head? == some 48):=by
       by_cases hd : d = 48
       ·subst hd; rfl
       ·rw [decide_eq_false (by simpa using hd)]; symm; simpa using hd
      rw [e1]
      cases ((d::F).head? == some 48) with
      | false=>walk_at "wp"; rfl
      | true=>
       walk_at "wp"
       refine eqS ?_
       have : decide (w = [48]) = (w == [48]):=by by_cases q : w = [48] <;> simp [q]
       rw [this]
       rfl
 ·rw [decide_eq_false (show ¬ 1 <= F.length by omega)]
  walk_at "wp"
  rfl
open PySem.NumText (digitsVal AllDigits)
def nv : W->Int | 45::r=>-((digitsVal r : Nat) : Int) | w=>((digitsVal w : Nat) : Int)
theorem U9 {w : W} (h : w.all figC = true) : AllDigits w:=fun c hc=>by
 have:=List.all_eq_true.mp h c hc
 unfold figC at this
 rw [Bool.and_eq_true,decide_eq_true_iff,decide_eq_true_iff] at this
 exact this
theorem Jy {w : W} (h : qI w = true) : intT [.str (S w)] = some (.int (nv w)):=by
 unfold qI at h
 rw [Bool.and_eq_true,Bool.and_eq_true,Bool.and_eq_true,decide_eq_true_iff,decide_eq_true_iff] at h
 obtain ⟨⟨⟨h1,h2⟩,h3⟩,_⟩:=h
 have hd:=U9 h3
 have e : (S w).cps.toList = w:=by simp
 have go : ∀ {n : Int},w.length <= 31->intText? (S w) = some n->intT [.str (S w)] = some (.int n):=fun hl e=>by
  show (if (S w).length <= 640 then (intText? (S w)).map D.int else none) = _
  rw [if_pos (by rw [yP]; omega),e]; rfl
 have ne : uS w ≠ []:=fun e=>by rw [e] at h1; simp at h1
 by_cases hm : ∃ r,w = 45::r
 ·obtain ⟨r,rfl⟩:=hm
  have hf : uS (45::r) = r:=rfl
  rw [hf] at h1 h2 hd ne
  refine go (by simp; omega) (intText_neg (cs:=r) e hd ne (by rw [yP]; simp; omega))
 ·have hf : uS w = w:=by
   unfold uS
   split
   ·exact absurd ⟨_,rfl⟩ hm
   ·rfl
  have hn : nv w = ((digitsVal w : Nat) : Int):=by
   unfold nv
   split
   ·exact absurd ⟨_,rfl⟩ hm
   ·rfl
  rw [hf] at h1 h2 hd ne
  rw [hn]
  have:=intText_digits (x:=S w) (by rw [e]; exact hd) (by rw [e]; exact ne) (by rw [yP]; omega)
  rw [e] at this
  exact go (by omega) this
def rt (w : W) : D:=if qI w = true then .int (nv w) else .str (S w)
def sD (w : W) : D:=.str (S w)
def LB (ws : List W) : Prop:=ws.length <= 100 /\ ∀ w ∈ ws,w.length <= 100
theorem LB.sub {ws vs : List W} (h : LB ws) (h1 : vs.length <= ws.length) (h2 : ∀ v ∈ vs,v ∈ ws) : LB vs:=⟨Nat.le_trans h1 h.1,fun v hv=>h.2 v (h2 v hv)⟩
theorem xL {ws : List W} (h : LB ws) : M_read_terms [.lst (ws.map sD)] = some (.sh (.tup (ws.map rt))):=by
 refine Op.eq ?_
 unfold M_read_terms vq
 walk_at "wrun"
 walk_at "wp"
 refine ⟨zE (by rw [List.length_map]; exact Nat.le_trans h.1 (by decide)),yz (k:=sD) (hh:=rt) (fun w hw=>?_) ?_⟩
 ·walk_at "wp"
  refine zt (zcO (w:=w) (Nat.le_trans (h.2 w hw) (by decide))) ?_
  walk_at "wp"
  unfold rt
  cases hn : qI w with
  | true=>
   walk_at "wp"
   refine zt (Jy hn) ?_
   rfl
  | false=>walk_at "wp"; rfl
 ·walk_at "wp"
  rfl
theorem VE {w : W} : M_is_whole [.str (S w)] = some (.sh (.bl false)):=by kernel_rfl
def cnB (w : W) : Bool:=qI w || nmB w
def tmB (w : W) : Bool:=qI w || (nmB w || vrB w)
theorem Ze {w : W} (h : w.length <= 100) : M_is_constant [.str (S w)] = some (.sh (.bl (nmB w))):=by
 refine Op.eq ?_
 unfold M_is_constant wK
 walk_at "wrun"
 walk_at "wp"
 refine zt VE ?_
 walk_at "wp"
 refine zt (Zd (Nat.le_trans h (by decide))) ?_
 walk_at "wp"
 rfl
theorem VF {z : Int} : M_is_constant [.int z] = some (.sh (.bl true)):=by kernel_rfl
theorem Jz {w : W} (h : w.length <= 100) : M_is_constant [rt w] = some (.sh (.bl (cnB w))):=by
 unfold rt cnB
 cases qI w with
 | true=>exact VF
 | false=>exact Ze h
theorem Ta {w : W} (h : w.length <= 100) : M_is_term [.str (S w)] = some (.sh (.bl (nmB w || vrB w))):=by
 refine Op.eq ?_
 unfold M_is_term qw
 walk_at "wrun"
 walk_at "wp"
 refine zt (Ze h) ?_
 walk_at "wp"
 cases nmB w with
 | true=>walk_at "wp"; rfl
 | false=>
  walk_at "wp"
  refine zt (Jx (Nat.le_trans h (by decide))) ?_
  walk_at "wp"
  rfl
theorem Tb {z : Int} : M_is_term [.int z] = some (.sh (.bl true)):=by kernel_rfl
theorem YZ {w : W} (h : w.length <= 100) : M_is_term [rt w] = some (.sh (.bl (tmB w))):=by
 unfold rt tmB
 cases qI w with
 | true=>exact Tb
 | false=>exact Ta h
def fD (ws : List W) : D:=match ws with | w0::r=>.tup [sD w0,.tup (r.map rt)] | []=>.non
def okF (ws : List W) : Bool:=match ws with | w0::r=>nmB w0 && decide (r.length <= 4) && r.all cnB | []=>false
theorem zbm {w0 : W} {r : List W} (h : LB (w0::r)) : M_is_fact [fD (w0::r)] = some (.sh (.bl (okF (w0::r)))):=by
 have h0 : w0.length <= 100:=h.2 w0 List.mem_cons_self
 have hr : ∀ w ∈ r,w.length <= 100:=fun w hw=>h.2 w (List.mem_cons_of_mem _ hw)
 have hl : r.length <= 100:=by have:=h.1; simp at this; omega
 refine Op.eq ?_
 rw [show okF (w0::r) = (nmB w0 && decide (r.length <= 4) && r.all cnB) from rfl]
 unfold M_is_fact qx fD sD
 walk_at "wrun"
 walk_at "wp"
 refine ⟨rfl,?_⟩
 walk_at "wp"
 refine zP (k:=1) rfl ?_
 walk_at "wp"
 refine zP (k:=0) rfl ?_
 walk_at "wp"
 refine zt (Zd (Nat.le_trans h0 (by decide))) ?_
 walk_at "wp"
 cases nmB w0 with
 | false=>walk_at "wp"; rfl
 | true=>
  walk_at "wp"
  refine ⟨rfl,?_⟩
  walk_at "wp"
  refine zt (d:=.bl (decide (4 < r.length))) (by show some (D.bl (decide ((4 : Int) < ((r.map rt).length : Int)))) = _; rw [List.length_map]; congr 2; exact decide_eq_decide.mpr (by omega)) ?_
  walk_at "wp"
  by_cases c : 4 < r.length
  ·rw [decide_eq_true c,decide_eq_false (show ¬ r.length <= 4 by omega)]
   walk_at "wp"; rfl
  ·rw [decide_eq_false c,decide_eq_true (show r.length <= 4 by omega)]
   walk_at "wp"
   refine ⟨zE (by rw [List.length_map]; omega),yz (k:=rt) (hh:=fun w=>.bl (cnB w)) (fun w hw=>?_) ?_⟩
   ·walk_at "wp"
    refine zt (Jz (hr w hw)) ?_
    walk_at "wp"
    rfl
   ·walk_at "wp"
    refine all_map cnB _ ?_
    rfl
theorem uT {f g : FE} {δ : En} {Rr : Rs->Prop} (k : Op (f δ) fun x=>Op (g δ) fun y=>Op (YR x y) Rr) : Op (ud f g δ) Rr:=by
 obtain ⟨x,e1,y,e2,z,e3,k⟩:=k
 exact ⟨z,by unfold ud; rw [e1,Option.bind_some,e2,Option.bind_some,e3],k⟩
theorem Tc {l y : W} (hy : 0 < y.length) (hl : l.length <= 10000) : vR (S l) (S y):=by
 refine ⟨by rw [yP]; exact beq_false_of_ne (by omega),by rw [yP]; exact zE hl,?_⟩
 unfold Builtin.Str.partsBetween
 rw [List.length_map,List.length_zip]
 have:=StrLaws.occ_length_le (S l) (S y) 0 (S l).length ((S l).length + 1)
 have hl2:=yP (w:=l)
 simp only [List.length_cons,List.length_map,List.length_append,List.length_nil]
 rw [sizeLine_eq]
 omega
theorem jt {l y : W} {z : Str} {Rr : Rs->Prop} (hz : z = S y) (hy : 0 < y.length) (hk : y.all (· < 256) = true) (hl : l.length <= 10000) (k : Rr (.fr (.lst ((sp y 0 l).map sD)))) : Op (YR (.str (S l)) (.str z)) Rr:=by
 subst hz
 refine zt ?_ k
 show (if vR (S l) (S y) then some (Rs.fr (.lst ((Txt.split (S l) (S y)).map D.str))) else none) = _
 rw [if_pos (Tc hy hl),U2 hy hk,List.map_map]
 rfl
theorem XI (x : D) (xs : List D) : L2.cutD (x::xs) (some 1) none = xs:=by
 unfold L2.cutD
 have e : HT.sIx (x::xs).length 0 (some 1) = 1:=by simp [HT.sIx]
 have e2 : HT.sIx (x::xs).length (x::xs).length none = (x::xs).length:=rfl
 rw [e,e2]
 simp
theorem wz : (" " : Str) = S [32]:=by decide +kernel
theorem VG {o : Option Out} {δ' : En} (h : So o (fun δ=>δ = δ') fun _ _=>False) : o = some (.nx δ'):=by
 obtain ⟨u,e,h⟩:=h
 cases u with
 | nx δ=>rw [e,h]
 | rt r δ=>exact h.elim
 | bk δ=>exact h.elim
 | ct δ=>exact h.elim
 | ex c δ=>exact h.elim
theorem uz {F G : FS} {δ δ' : En} (h : F δ = some (.nx δ')) : zA F G δ = G δ':=by unfold zA; rw [h]
theorem T9 {F G : FS} {δ δ' : En} {c : Rs} (h : F δ = some (.rt c δ')) : zA F G δ = some (.rt c δ'):=by unfold zA; rw [h]
def EF (t : Str) (ws : List W) : En:=[some (.sh (.str t)),some (.sh (.lst (ws.map sD))),some (.sh (fD ws))]
structure Tx (ws : List W) : Prop where
 ne : ws ≠ []
 nb : NB ws
 lb : ∀ w ∈ ws,w.length <= 40
 le : ws.length <= 60
theorem Tx.LB {ws : List W} (h : Tx ws) : LB ws:=⟨by have:=h.le; omega,fun w hw=>Nat.le_trans (h.lb w hw) (by decide)⟩
theorem wA : ∀ {ws : List W},(∀ w ∈ ws,w.length <= 40)->(jB ws).length <= 41 * ws.length
 | [],_=>by simp [jB]
 | [w],h=>by have:=h w (by simp); simp only [jB,List.length_cons,List.length_nil]; omega
 | w::x::r,h=>by
  have h1:=h w (by simp)
  have h2:=wA (ws:=x::r) fun v hv=>h v (List.mem_cons_of_mem _ hv)
  simp only [jB,List.length_append,List.length_cons] at *
  omega
theorem Tx.len {ws : List W} (h : Tx ws) : (jB ws).length <= 10000:=by have:=wA h.lb; have:=h.le; omega
theorem Td {ws : List W} (h : Tx ws) : yT [some (.sh (.str (S (jB ws)))),none,none] =
  zA (sIf (xO (fB (zM (zr M_is_fact (zi (zU 2) fNil))))) (zA (qj "NoText" (zi (fC (.str "this text is no fact")) fNil)) sNil) sNil) (zA (ve 2) sNil) (EF (S (jB ws)) ws):=by
 have lb:=h.LB
 unfold yT
 rw [uz (δ':=[some (.sh (.str (S (jB ws)))),some (.sh (.lst (ws.map sD))),none])]
 ·rw [uz (δ':=EF (S (jB ws)) ws)]
  refine VG ?_
  cases ws with
  | nil=>exact absurd rfl h.ne
  | cons w0 r=>
   walk_at "wp"
   refine yI (k:=0) rfl ?_
   walk_at "wp"
   rw [List.map_cons,XI]
   refine zt (xL (lb.sub (by simp) fun v hv=>List.mem_cons_of_mem _ hv)) ?_
   walk_at "wp"
   refine ⟨(by show (2 : Nat) <= sizeLine; decide),?_⟩
   walk_at "wp"
   rfl
 ·refine VG ?_
  walk_at "wp"
  refine uT ?_
  walk_at "wp"
  refine jt wz (by decide) (by decide) h.len ?_
  rw [U6 h.ne h.nb]
  walk_at "wp"
  rfl
theorem zdj {c : En->Option Bool} {F G : FS} {δ : En} (h : c δ = some false) : sIf c F G δ = G δ:=by unfold sIf; rw [h]; rfl
theorem JA {ws : List W} (h : Tx ws) : xO (fB (zM (zr M_is_fact (zi (zU 2) fNil)))) (EF (S (jB ws)) ws) = some (!okF ws):=by
 refine Op.eq ?_
 unfold EF
 cases ws with
 | nil=>exact absurd rfl h.ne
 | cons w0 r=>
  walk_at "wp"
  refine zt (zbm h.LB) ?_
  walk_at "wp"
  rfl
theorem zcP {ws : List W} (h : Tx ws) (ok : okF ws = true) : M_read_fact [.str (S (jB ws))] = some (.sh (fD ws)):=by
 have e : yT [some (.sh (.str (S (jB ws)))),none,none] = some (.rt (.sh (fD ws)) (EF (S (jB ws)) ws)):=by
  rw [Td h,uz (δ':=EF (S (jB ws)) ws)]
  ·refine T9 ?_
   rfl
  ·rw [zdj (by rw [JA h,ok]; rfl)]
   rfl
 unfold M_read_fact yN
 rw [if_pos (show [D.str (S (jB ws))].length = 1 from rfl)]
 show (match yT [some (.sh (.str (S (jB ws)))),none,none] with | some (.rt d _)=>some d | some (.nx _)=>some (.sh .non) | _=>none) = _
 rw [e]
theorem JB {v w : W} : eqA (sD v) (sD w) = decide (v = w):=by
 unfold sD
 rw [xE rfl rfl]
 show eqV (.str (S v)) (.str (S w)) = _
 by_cases h : v = w
 ·subst h; simp [eqV]
 ·rw [decide_eq_false h]
  have : S v ≠ S w:=fun e=>h (VC.mp e)
  simp [eqV,this]
theorem zbn {v w : W} {R : D->Prop} (k : R (.bl (decide (v = w)))) : Op (eqO false (.lst [sD v]) (.lst [sD w])) R:=by
 refine zt ?_ k
 show some (D.bl (eqAs [sD v] [sD w])) = _
 congr 2
 simp [eqAs,JB]
theorem XJ {v a b : W} {R : D->Prop} (k : R (.bl (decide (v = a) || decide (v = b)))) : Op (inE false (sD v) (.tup [sD a,sD b])) R:=by
 refine zt ?_ k
 show some (D.bl (inA (sD v) [sD a,sD b])) = _
 congr 2
 have e : ∀ x y : W,decide (x = y) = decide (y = x):=fun x y=>decide_eq_decide.mpr eq_comm
 simp only [inA,List.any_cons,List.any_nil,Bool.or_false,JB]
 rw [e a v,e b v]
theorem zbo {v a b : W} {R : D->Prop} (k : R (.bl (decide (v = a) || decide (v = b)))) : Op (inE false (.lst [sD v]) (.tup [.lst [sD a],.lst [sD b]])) R:=by
 refine zt ?_ k
 show some (D.bl (inA (.lst [sD v]) [.lst [sD a],.lst [sD b]])) = _
 congr 2
 have e : ∀ x y : W,decide (x = y) = decide (y = x):=fun x y=>decide_eq_decide.mpr eq_comm
 have q : ∀ x : W,eqA (.lst [sD x]) (.lst [sD v]) = decide (x = v):=fun x=>by
  have : eqA (.lst [sD x]) (.lst [sD v]) = eqAs [sD x] [sD v]:=by simp only [eqA]
  rw [this]; simp [eqAs,JB]
 simp only [inA,List.any_cons,List.any_nil,Bool.or_false,q]
 rw [e a v,e b v]
def wNot : W:=[110,111,116]
def wUnder : W:=[117,110,100,101,114]
def wUnlike : W:=[117,110,108,105,107,101]
def wSum : W:=[115,117,109]
def wLeast : W:=[108,101,97,115,116]
def wCount : W:=[99,111,117,110,116]
def wYes : W:=[121,101,115]
theorem ju : ("not" : Str) = S wNot:=by decide +kernel
theorem Z7 : ("under" : Str) = S wUnder:=by decide +kernel
theorem jv : ("unlike" : Str) = S wUnlike:=by decide +kernel
theorem JC : ("sum" : Str) = S wSum:=by decide +kernel
theorem Z8 : ("least" : Str) = S wLeast:=by decide +kernel
theorem tV : ("count" : Str) = S wCount:=by decide +kernel
theorem uH : ("yes" : Str) = S wYes:=by decide +kernel
theorem VH : ("" : Str) = S []:=by decide +kernel
def isU (w : W) : Bool:=decide (w = wUnder) || decide (w = wUnlike)
def lD : List W->D
 | []=>.non
 | w::r=>if isU w = true then .tup (sD w::r.map rt) else if w = wNot then .tup [sD wNot,sD (r.head?.getD []),.tup ((r.drop 1).map rt)] else .tup [sD wYes,sD w,.tup (r.map rt)]
theorem vY (w : W) (r : List W) : lD (w::r) = if isU w = true then .tup (sD w::r.map rt) else if w = wNot then .tup [sD wNot,sD (r.head?.getD []),.tup ((r.drop 1).map rt)] else .tup [sD wYes,sD w,.tup (r.map rt)]:=rfl
theorem zbp (x : D) (xs : List D) : L2.cutD (x::xs) (some 1) (some 2) = xs.take 1:=by
 unfold L2.cutD
 cases xs with
 | nil=>simp [HT.sIx]
 | cons y xs=>
  have e : HT.sIx (x::y::xs).length 0 (some 1) = 1:=by simp [HT.sIx]
  have e2 : HT.sIx (x::y::xs).length (x::y::xs).length (some 2) = 2:=by simp [HT.sIx]
  rw [e,e2]
  simp
theorem zcQ (x : D) (xs : List D) : L2.cutD (x::xs) (some 2) none = xs.drop 1:=by
 unfold L2.cutD
 cases xs with
 | nil=>simp [HT.sIx]
 | cons y xs=>
  have e : HT.sIx (x::y::xs).length 0 (some 2) = 2:=by simp [HT.sIx]
  have e2 : HT.sIx (x::y::xs).length (x::y::xs).length none = (x::y::xs).length:=rfl
  rw [e,e2]
  simp
theorem zbq {r : List W} {R : D->Prop} (h : ∀ w ∈ r,w.length <= 100) (k : R (sD (r.head?.getD []))) : Op (uB (.str "") (.lst ((r.map sD).take 1))) R:=by
 refine zt ?_ k
 rw [VH]
 cases r with
 | nil=>rfl
 | cons w r=>
  have hw:=h w (by simp)
  have e : uB (.str (S [])) (.lst [sD w]) = (xF [sD w]).bind fun ys=>if (ys.map fun y=>y.length).sum + ys.length * (S []).length <= 16777216 then some (.str (Txt.join (S []) ys)) else none:=rfl
  refine Eq.trans e ?_
  show (if (([S w] : List Str).map fun y=>y.length).sum + ([S w] : List Str).length * (S []).length <= 16777216 then some (D.str (Txt.join (S []) [S w])) else none) = _
  rw [if_pos (by simp only [List.map_cons,List.map_nil,List.sum_cons,List.sum_nil,List.length_cons,List.length_nil]; rw [yP,yP]; simp; omega)]
  rfl
theorem yr {xs ys : List D} {R : D->Prop} (h : xs.length + ys.length <= 10000) (k : R (.tup (xs++ys))) : Op (addD (.tup xs) (.tup ys)) R:=by
 refine zt ?_ k
 show Option.or _ (Option.or _ (Option.or (tupAdd (.tup xs) (.tup ys)) _)) = _
 have : tupAdd (.tup xs) (.tup ys) = some (.tup (xs++ys)):=by
  unfold tupAdd
  exact if_pos (by rw [sizeLine_eq]; omega)
 rw [this]
 rfl
theorem zcR {p : List W} (hn : p ≠ []) (nb : NB p) (lb : LB p) (hl : (jB p).length <= 10000) : M_read_literal [.str (S (jB p))] = some (.sh (lD p)):=by
 cases p with
 | nil=>exact absurd rfl hn
 | cons w r=>
  have lr : LB r:=lb.sub (by simp) fun v hv=>List.mem_cons_of_mem _ hv
  refine Op.eq ?_
  unfold M_read_literal wn
  walk_at "wrun"
  walk_at "wp"
  refine uT ?_
  walk_at "wp"
  refine jt wz (by decide) (by decide) hl ?_
  rw [U6 (by simp) nb]
  walk_at "wp"
  rw [List.map_cons]
  refine yI (k:=0) rfl ?_
  walk_at "wp"
  refine ⟨(by show (2 : Nat) <= sizeLine; decide),?_⟩
  rw [Z7,jv]
  refine XJ ?_
  walk_at "wp"
  rw [vY]
  rw [show (decide (w = wUnder) || decide (w = wUnlike)) = isU w from rfl]
  cases isU w with
  | true=>
   walk_at "wp"
   refine yI (k:=0) rfl ?_
   walk_at "wp"
   refine ⟨(by show (1 : Nat) <= sizeLine; decide),?_⟩
   walk_at "wp"
   rw [XI]
   refine zt (xL lr) ?_
   walk_at "wp"
   refine yr (by have:=lr.1; simp; omega) ?_
   rfl
  | false=>
   walk_at "wp"
   refine yI (k:=0) rfl ?_
   walk_at "wp"
   rw [ju]
   refine neS ?_
   walk_at "wp"
   by_cases hw : w = wNot
   ·rw [decide_eq_true hw]
    walk_at "wp"
    rw [zbp]
    refine zbq lr.2 ?_
    walk_at "wp"
    rw [zcQ,<- List.map_drop]
    refine zt (xL (lr.sub (by simp) fun v hv=>List.drop_subset _ _ hv)) ?_
    walk_at "wp"
    refine ⟨(by show (3 : Nat) <= sizeLine; decide),?_⟩
    rw [if_neg Bool.false_ne_true,if_pos hw]
    rfl
   ·rw [decide_eq_false hw]
    walk_at "wp"
    refine yI (k:=0) rfl ?_
    walk_at "wp"
    rw [XI]
    refine zt (xL lr) ?_
    walk_at "wp"
    refine ⟨(by show (3 : Nat) <= sizeLine; decide),?_⟩
    rw [if_neg Bool.false_ne_true,if_neg hw,uH]
    rfl
def hT (r : List W) : List D:=
 match r.reverse with
 | []=>[]
 | z::us=>if z = wCount then us.reverse.map rt++[.tup [sD wCount]] else match us with
  | []=>r.map rt
  | y::vs=>if y = wSum \/ y = wLeast then vs.reverse.map rt++[.tup [sD y,sD z]] else r.map rt
theorem Zf (xs : List D) (x : D) : L2.cutD (xs++[x]) none (some (-1)) = xs:=by
 unfold L2.cutD
 have e1 : HT.sIx (xs++[x]).length 0 none = 0:=rfl
 have e2 : HT.sIx (xs++[x]).length (xs++[x]).length (some (-1)) = xs.length:=by simp [HT.sIx]; omega
 rw [e1,e2]; simp
theorem Qa (xs : List D) (x : D) : L2.cutD (xs++[x]) (some (-1)) none = [x]:=by
 unfold L2.cutD
 have e1 : HT.sIx (xs++[x]).length 0 (some (-1)) = xs.length:=by simp [HT.sIx]; omega
 have e2 : HT.sIx (xs++[x]).length (xs++[x]).length none = (xs++[x]).length:=rfl
 rw [e1,e2]; simp
theorem zbr (xs : List D) (x y : D) : L2.cutD (xs++[x,y]) none (some (-2)) = xs:=by
 unfold L2.cutD
 have e1 : HT.sIx (xs++[x,y]).length 0 none = 0:=rfl
 have e2 : HT.sIx (xs++[x,y]).length (xs++[x,y]).length (some (-2)) = xs.length:=by simp [HT.sIx]; omega
 rw [e1,e2]; simp
theorem zbs (xs : List D) (x y : D) : L2.cutD (xs++[x,y]) (some (-2)) none = [x,y]:=by
 unfold L2.cutD
 have e1 : HT.sIx (xs++[x,y]).length 0 (some (-2)) = xs.length:=by simp [HT.sIx]; omega
 have e2 : HT.sIx (xs++[x,y]).length (xs++[x,y]).length none = (xs++[x,y]).length:=rfl
 rw [e1,e2]; simp
theorem zbt (xs : List D) (x y : D) : L2.cutD (xs++[x,y]) (some (-2)) (some (-1)) = [x]:=by
 unfold L2.cutD
 have e1 : HT.sIx (xs++[x,y]).length 0 (some (-2)) = xs.length:=by simp [HT.sIx]; omega
 have e2 : HT.sIx (xs++[x,y]).length (xs++[x,y]).length (some (-1)) = xs.length + 1:=by simp [HT.sIx]; omega
 rw [e1,e2]; simp
theorem Zg (r : List W) : r = [] \/ (∃ z,r = [z]) \/ ∃ us y z,r = us++[y,z]:=by
 cases h : r.reverse with
 | nil=>left; simpa using h
 | cons z us=>
  right
  have e : r = us.reverse++[z]:=by rw [<- List.reverse_reverse r,h]; simp
  cases us with
  | nil=>left; exact ⟨z,by simpa using e⟩
  | cons y vs=>right; exact ⟨vs.reverse,y,z,by simpa using e⟩
theorem zbu {r : List W} (lb : LB r) : M_read_head_terms [.lst (r.map sD)] = some (.sh (.tup (hT r))):=by
 rcases Zg r with rfl | ⟨z,rfl⟩ | ⟨us,y,z,rfl⟩
 ·kernel_rfl
 ·refine Op.eq ?_
  unfold M_read_head_terms yH
  walk_at "wrun"
  walk_at "wp"
  have c1:=Qa [] (sD z)
  rw [List.nil_append] at c1
  rw [c1]
  refine ⟨(by show (1 : Nat) <= sizeLine; decide),?_⟩
  walk_at "wp"
  rw [tV]
  refine zbn ?_
  walk_at "wp"
  by_cases hz : z = wCount
  ·rw [decide_eq_true hz]
   walk_at "wp"
   have c2:=Zf [] (sD z)
   rw [List.nil_append] at c2
   rw [c2]
   refine zt (xL (ws:=[]) ⟨by simp,by simp⟩) ?_
   walk_at "wp"
   refine ⟨(by show (1 : Nat) <= sizeLine; decide),?_⟩
   walk_at "wp"
   refine ⟨(by show (1 : Nat) <= sizeLine; decide),?_⟩
   walk_at "wp"
   refine yr (by simp) ?_
   simp [hT,hz,sD,tV]
  ·rw [decide_eq_false hz]
   walk_at "wp"
   have c3 : L2.cutD [sD z] (some (-2)) (some (-1)) = []:=by
    unfold L2.cutD
    simp [HT.sIx]
   rw [show -(2 : Int) = -2 from rfl,show -(1 : Int) = -1 from rfl,c3]
   refine ⟨(by show (1 : Nat) <= sizeLine; decide),?_⟩
   walk_at "wp"
   refine ⟨(by show (1 : Nat) <= sizeLine; decide),?_⟩
   walk_at "wp"
   refine ⟨(by show (2 : Nat) <= sizeLine; decide),?_⟩
   walk_at "wp"
   refine zt (d:=.bl false) rfl ?_
   walk_at "wp"
   refine zt (xL lb) ?_
   simp [hT,hz]
 ·refine Op.eq ?_
  unfold M_read_head_terms yH
  walk_at "wrun"
  walk_at "wp"
  have c0 : List.map sD (us++[y,z]) = us.map sD++[sD y,sD z]:=by simp
  have c0' : List.map sD (us++[y,z]) = (us.map sD++[sD y])++[sD z]:=by simp
  rw [show L2.cutD (List.map sD (us++[y,z])) (some (-1)) none = [sD z] by rw [c0',Qa]]
  refine ⟨(by show (1 : Nat) <= sizeLine; decide),?_⟩
  walk_at "wp"
  rw [tV]
  refine zbn ?_
  walk_at "wp"
  by_cases hz : z = wCount
  ·rw [decide_eq_true hz]
   walk_at "wp"
   rw [show L2.cutD (List.map sD (us++[y,z])) none (some (-1)) = (us++[y]).map sD by rw [c0',Zf]; simp]
   refine zt (xL (lb.sub (by simp) fun v hv=>by simp at hv ⊢; rcases hv with h | h <;> simp [h])) ?_
   walk_at "wp"
   refine ⟨(by show (1 : Nat) <= sizeLine; decide),?_⟩
   walk_at "wp"
   refine ⟨(by show (1 : Nat) <= sizeLine; decide),?_⟩
   walk_at "wp"
   refine yr (by have:=lb.1; simp at *; omega) ?_
   simp [hT,hz,sD,tV]
  ·rw [decide_eq_false hz]
   walk_at "wp"
   rw [show L2.cutD (List.map sD (us++[y,z])) (some (-2)) (some (-1)) = [sD y] by rw [c0,zbt]]
   refine ⟨(by show (1 : Nat) <= sizeLine; decide),?_⟩
   walk_at "wp"
   refine ⟨(by show (1 : Nat) <= sizeLine; decide),?_⟩
   walk_at "wp"
   refine ⟨(by show (2 : Nat) <= sizeLine; decide),?_⟩
   walk_at "wp"
   rw [JC,Z8]
   refine zbo ?_
   walk_at "wp"
   by_cases hy : y = wSum \/ y = wLeast
   ·have : (decide (y = wSum) || decide (y = wLeast)) = true:=by simpa using hy
    rw [this]
    walk_at "wp"
    rw [show L2.cutD (List.map sD (us++[y,z])) none (some (-2)) = us.map sD by rw [c0,zbr]]
    refine zt (xL (lb.sub (by simp) fun v hv=>by simp [hv])) ?_
    walk_at "wp"
    rw [show L2.cutD (List.map sD (us++[y,z])) (some (-2)) none = [sD y,sD z] by rw [c0,zbs]]
    walk_at "wp"
    refine ⟨(by show (1 : Nat) <= sizeLine; decide),?_⟩
    walk_at "wp"
    refine yr (by have:=lb.1; simp at *; omega) ?_
    simp [hT,hz,hy]
   ·have : (decide (y = wSum) || decide (y = wLeast)) = false:=by simpa using hy
    rw [this]
    walk_at "wp"
    refine zt (xL lb) ?_
    simp [hT,hz,hy]
theorem zbv {α : Type} {f : α->D} {p : α->Bool} {xs : List α} (hl : xs.length <= 100) (h : ∀ x ∈ xs,M_is_term [f x] = some (.sh (.bl (p x)))) : M_are_terms [.tup (xs.map f)] = some (.sh (.bl (decide (xs.length <= 4) && xs.all p))):=by
 refine Op.eq ?_
 unfold M_are_terms uf
 walk_at "wrun"
 walk_at "wp"
 refine ⟨rfl,?_⟩
 walk_at "wp"
 refine zt (d:=.bl (decide (4 < xs.length))) (by show some (D.bl (decide ((4 : Int) < ((xs.map f).length : Int)))) = _; rw [List.length_map]; congr 2; exact decide_eq_decide.mpr (by omega)) ?_
 walk_at "wp"
 by_cases c : 4 < xs.length
 ·rw [decide_eq_true c,decide_eq_false (show ¬ xs.length <= 4 by omega)]
  walk_at "wp"; rfl
 ·rw [decide_eq_false c,decide_eq_true (show xs.length <= 4 by omega)]
  walk_at "wp"
  refine ⟨zE (by rw [List.length_map]; omega),yz (k:=f) (hh:=fun w=>.bl (p w)) (fun w hw=>?_) ?_⟩
  ·walk_at "wp"
   refine zt (h w hw) ?_
   walk_at "wp"
   rfl
  ·walk_at "wp"
   refine all_map p _ ?_
   rfl
theorem wB {ws : List W} (lb : LB ws) : M_are_terms [.tup (ws.map rt)] = some (.sh (.bl (decide (ws.length <= 4) && ws.all tmB))):=zbv lb.1 fun w hw=>YZ (lb.2 w hw)
def okLit : List W->Bool
 | []=>false
 | w::r=>if isU w = true then (match r with | [a,b]=>tmB a && tmB b | _=>false) else if w = wNot then nmB (r.head?.getD []) && (decide ((r.drop 1).length <= 4) && (r.drop 1).all tmB) else nmB w && (decide (r.length <= 4) && r.all tmB)
theorem wC (w : W) (r : List W) : okLit (w::r) = if isU w = true then (match r with | [a,b]=>tmB a && tmB b | _=>false) else if w = wNot then nmB (r.head?.getD []) && (decide ((r.drop 1).length <= 4) && (r.drop 1).all tmB) else nmB w && (decide (r.length <= 4) && r.all tmB):=rfl
theorem Qb {k n : W} {t : D} {b1 b2 : Bool} (hk : k = wYes \/ k = wNot) (h1 : M_is_name [sD n] = some (.sh (.bl b1))) (h2 : M_are_terms [t] = some (.sh (.bl b2))) : M_is_literal [.tup [sD k,sD n,t]] = some (.sh (.bl (b1 && b2))):=by
 refine Op.eq ?_
 unfold M_is_literal y6
 walk_at "wrun"
 walk_at "wp"
 refine ⟨rfl,?_⟩
 walk_at "wp"
 refine zP (k:=0) rfl ?_
 refine ⟨rfl,?_⟩
 walk_at "wp"
 refine zP (k:=0) rfl ?_
 walk_at "wp"
 refine ⟨(by show (2 : Nat) <= sizeLine; decide),?_⟩
 rw [uH,ju]
 refine XJ ?_
 walk_at "wp"
 have : (decide (k = wYes) || decide (k = wNot)) = true:=by simpa using hk
 rw [this]
 walk_at "wp"
 refine zP (k:=1) rfl ?_
 walk_at "wp"
 refine zt h1 ?_
 walk_at "wp"
 cases b1 with
 | false=>walk_at "wp"; rfl
 | true=>
  walk_at "wp"
  refine zP (k:=2) rfl ?_
  walk_at "wp"
  refine zt h2 ?_
  walk_at "wp"
  rfl
theorem zbw {k : W} {x y : D} {b1 b2 : Bool} (hk : isU k = true) (h1 : M_is_term [x] = some (.sh (.bl b1))) (h2 : M_is_term [y] = some (.sh (.bl b2))) : M_is_literal [.tup [sD k,x,y]] = some (.sh (.bl (b1 && b2))):=by
 have hk' : k = wUnder \/ k = wUnlike:=by unfold isU at hk; simpa using hk
 refine Op.eq ?_
 unfold M_is_literal y6
 walk_at "wrun"
 walk_at "wp"
 refine ⟨rfl,?_⟩
 walk_at "wp"
 refine zP (k:=0) rfl ?_
 refine ⟨rfl,?_⟩
 walk_at "wp"
 refine zP (k:=0) rfl ?_
 walk_at "wp"
 refine ⟨(by show (2 : Nat) <= sizeLine; decide),?_⟩
 rw [uH,ju]
 refine XJ ?_
 walk_at "wp"
 have : (decide (k = wYes) || decide (k = wNot)) = false:=by rcases hk' with rfl | rfl <;> decide
 rw [this]
 walk_at "wp"
 refine zP (k:=0) rfl ?_
 walk_at "wp"
 refine ⟨(by show (2 : Nat) <= sizeLine; decide),?_⟩
 rw [Z7,jv]
 refine XJ ?_
 rw [show (decide (k = wUnder) || decide (k = wUnlike)) = isU k from rfl,hk]
 walk_at "wp"
 refine zP (k:=1) rfl ?_
 walk_at "wp"
 refine zt h1 ?_
 walk_at "wp"
 cases b1 with
 | false=>walk_at "wp"; rfl
 | true=>
  walk_at "wp"
  refine zP (k:=2) rfl ?_
  walk_at "wp"
  refine zt h2 ?_
  walk_at "wp"
  rfl
theorem Z9 {xs : List D} (h : xs.length ≠ 3) (hl : xs.length <= 10000) : M_is_literal [.tup xs] = some (.sh (.bl false)):=by
 refine Op.eq ?_
 unfold M_is_literal y6
 walk_at "wrun"
 walk_at "wp"
 refine ⟨rfl,?_⟩
 walk_at "wp"
 rw [decide_eq_false (by omega)]
 walk_at "wp"
 rfl
theorem JD {p : List W} (hn : p ≠ []) (lb : LB p) : M_is_literal [lD p] = some (.sh (.bl (okLit p))):=by
 cases p with
 | nil=>exact absurd rfl hn
 | cons w r=>
  have lr : LB r:=lb.sub (by simp) fun v hv=>List.mem_cons_of_mem _ hv
  have hw:=lb.2 w List.mem_cons_self
  rw [vY,wC]
  cases hu : isU w with
  | true=>
   rw [if_pos rfl,if_pos rfl]
   match r,lr with
   | [a,b],lr=>exact zbw hu (YZ (lr.2 a (by simp))) (YZ (lr.2 b (by simp)))
   | [],_=>exact Z9 (by simp) (by simp)
   | [a],_=>exact Z9 (by simp) (by simp)
   | a::b::c::r,lr=>exact Z9 (by simp) (by have:=lr.1; simp at *; omega)
  | false=>
   rw [if_neg Bool.false_ne_true,if_neg Bool.false_ne_true]
   by_cases hn : w = wNot
   ·rw [if_pos hn,if_pos hn]
    refine Qb (.inr rfl) (Zd ?_) (wB (lr.sub (by simp) fun v hv=>List.drop_subset _ _ hv))
    cases r with
    | nil=>simp
    | cons a r=>exact Nat.le_trans (lr.2 a (by simp)) (by decide)
   ·rw [if_neg hn,if_neg hn]
    exact Qb (.inl rfl) (Zd (Nat.le_trans hw (by decide))) (wB lr)
def isY : List W->Bool | []=>false | w::_=>!isU w && !decide (w = wNot)
def okB (ps : List (List W)) : Bool:=(decide (1 <= ps.length) && decide (ps.length <= 6)) && ps.all okLit && decide ((ps.filter isY).length <= 4)
theorem zdk {p : List W} (hn : p ≠ []) : ∃ k xs,lD p = .tup (sD k::xs) /\ decide (k = wYes) = isY p:=by
 cases p with
 | nil=>exact absurd rfl hn
 | cons w r=>
  rw [vY]
  cases hu : isU w with
  | true=>
   refine ⟨w,_,if_pos rfl,?_⟩
   have hk' : w = wUnder \/ w = wUnlike:=by unfold isU at hu; simpa using hu
   show _ = (!isU w && !decide (w = wNot))
   rw [hu]
   rcases hk' with rfl | rfl <;> decide
  | false=>
   rw [if_neg Bool.false_ne_true]
   by_cases hn : w = wNot
   ·refine ⟨wNot,_,if_pos hn,?_⟩
    show _ = (!isU w && !decide (w = wNot))
    rw [hu,decide_eq_true hn]; decide
   ·refine ⟨wYes,_,if_neg hn,?_⟩
    show _ = (!isU w && !decide (w = wNot))
    rw [hu,decide_eq_false hn]; decide
theorem Te {ps : List (List W)} (hp : ∀ p ∈ ps,p ≠ [] /\ LB p) (hl : ps.length <= 100) : M_is_body [.tup (ps.map lD)] = some (.sh (.bl (okB ps))):=by
 refine Op.eq ?_
 unfold M_is_body qy okB
 walk_at "wrun"
 walk_at "wp"
 refine ⟨rfl,?_⟩
 walk_at "wp"
 rw [List.length_map]
 refine xj (fun c=>?_) fun c=>?_
 ·rw [decide_eq_true (show 1 <= ps.length by omega)]
  walk_at "wp"
  refine zt (d:=.bl (decide (ps.length <= 6))) (by show some (D.bl (decide ((ps.length : Int) <= 6))) = _; congr 2; exact decide_eq_decide.mpr (by omega)) ?_
  walk_at "wp"
  cases h6 : decide (ps.length <= 6) with
  | false=>walk_at "wp"; rfl
  | true=>
   walk_at "wp"
   refine ⟨zE (by rw [List.length_map]; omega),yz (k:=lD) (hh:=fun w=>.bl (okLit w)) (fun w hw=>?_) ?_⟩
   ·walk_at "wp"
    refine zt (JD (hp w hw).1 (hp w hw).2) ?_
    walk_at "wp"
    rfl
   ·walk_at "wp"
    refine all_map okLit _ ?_
    walk_at "wp"
    cases ps.all okLit with
    | false=>walk_at "wp"; rfl
    | true=>
     walk_at "wp"
     refine ⟨zE (by rw [List.length_map]; omega),uQ (k:=lD) (p:=isY) (hh:=lD) (fun w hw=>?_) (fun w hw _=>?_) ?_⟩
     ·obtain ⟨k,xs,e1,e2⟩:=zdk (hp w hw).1
      rw [e1]
      walk_at "wp"
      refine zP (k:=0) rfl ?_
      walk_at "wp"
      rw [uH]
      refine eqS ?_
      walk_at "wp"
      exact e2
     ·walk_at "wp"
      rfl
     ·walk_at "wp"
      rw [List.length_map]
      refine zt (d:=.bl (decide ((ps.filter isY).length <= 4))) (by show some (D.bl (decide (((ps.filter isY).length : Int) <= 4))) = _; congr 2; exact decide_eq_decide.mpr (by omega)) ?_
      rfl
 ·rw [decide_eq_false (show ¬ 1 <= ps.length by omega)]
  walk_at "wp"
  rfl
def okH (r : List W) : Bool:=
 match r.reverse with
 | []=>true
 | z::us=>if z = wCount then decide (r.length <= 4) && us.reverse.all tmB else match us with
  | []=>decide (r.length <= 4) && r.all tmB
  | y::vs=>if y = wSum \/ y = wLeast then decide (vs.length + 1 <= 4) && (vrB z && vs.reverse.all tmB) else decide (r.length <= 4) && r.all tmB
theorem zcS {w : W} : M_is_grouping [.str (S w)] = some (.sh (.bl false)):=by kernel_rfl
theorem zcT {z : Int} : M_is_grouping [.int z] = some (.sh (.bl false)):=by kernel_rfl
theorem zbx {w : W} : M_is_grouping [rt w] = some (.sh (.bl false)):=by
 unfold rt
 split
 ·exact zcT
 ·exact zcS
theorem VI : M_is_grouping [.tup [sD wCount]] = some (.sh (.bl true)):=by kernel_rfl
theorem Tf {x : D} {xs : List D} : M_is_term [.tup (x::xs)] = some (.sh (.bl false)):=by kernel_rfl
theorem JE {y z : W} (hy : y = wSum \/ y = wLeast) (hz : z.length <= 100) : M_is_grouping [.tup [sD y,sD z]] = some (.sh (.bl (vrB z))):=by
 refine Op.eq ?_
 unfold M_is_grouping wM
 walk_at "wrun"
 walk_at "wp"
 refine ⟨rfl,?_⟩
 walk_at "wp"
 refine ⟨(by show (2 : Nat) <= sizeLine; decide),?_⟩
 refine zt (d:=.bl false) rfl ?_
 walk_at "wp"
 refine zP (k:=0) rfl ?_
 refine ⟨rfl,?_⟩
 walk_at "wp"
 refine zP (k:=0) rfl ?_
 walk_at "wp"
 refine ⟨(by show (2 : Nat) <= sizeLine; decide),?_⟩
 rw [JC,Z8]
 refine XJ ?_
 have : (decide (y = wSum) || decide (y = wLeast)) = true:=by simpa using hy
 rw [this]
 walk_at "wp"
 refine zP (k:=1) rfl ?_
 walk_at "wp"
 refine zt (Jx (Nat.le_trans hz (by decide))) ?_
 walk_at "wp"
 rfl
theorem tW (xs : List D) (x : D) : ixA (.tup (xs++[x])) (.int (-1)) = some x:=by
 show atI (xs++[x]) (-1) = some x
 unfold atI ixN
 rw [if_neg (by decide),if_pos (by simp; omega)]
 simp
 rw [show (-1 + ((xs.length : Int) + 1)).toNat = xs.length by omega]
 simp
theorem Yb {xs : List D} {x : D} {g b1 b2 : Bool} (hl : xs.length <= 100) (hg : M_is_grouping [x] = some (.sh (.bl g))) (h1 : M_are_terms [.tup xs] = some (.sh (.bl b1))) (h2 : g = false->M_are_terms [.tup (xs++[x])] = some (.sh (.bl b2))) :
  M_are_head_terms [.tup (xs++[x])] = some (.sh (.bl (decide (xs.length + 1 <= 4) && (if g = true then b1 else b2)))):=by
 refine Op.eq ?_
 unfold M_are_head_terms xt
 walk_at "wrun"
 walk_at "wp"
 refine ⟨rfl,?_⟩
 walk_at "wp"
 refine zt (d:=.bl (decide (4 < xs.length + 1))) (by show some (D.bl (decide ((4 : Int) < ((xs++[x]).length : Int)))) = _; congr 2; exact decide_eq_decide.mpr (by simp; omega)) ?_
 walk_at "wp"
 by_cases c : 4 < xs.length + 1
 ·rw [decide_eq_true c,decide_eq_false (show ¬ xs.length + 1 <= 4 by omega)]
  walk_at "wp"; rfl
 ·rw [decide_eq_false c,decide_eq_true (show xs.length + 1 <= 4 by omega)]
  walk_at "wp"
  rw [decide_eq_true (show (0 : Int) < ((xs++[x]).length : Int) by simp)]
  walk_at "wp"
  refine zt (tW xs x) ?_
  walk_at "wp"
  refine zt hg ?_
  walk_at "wp"
  cases g with
  | true=>
   walk_at "wp"
   rw [show -(1 : Int) = -1 from rfl,Zf]
   refine zt h1 ?_
   rfl
  | false=>
   walk_at "wp"
   refine zt (h2 rfl) ?_
   rfl
theorem JF {r : List W} (lb : LB r) : M_are_head_terms [.tup (hT r)] = some (.sh (.bl (okH r))):=by
 have plain : ∀ (us : List W) (z : W),LB (us++[z])->M_are_head_terms [.tup ((us++[z]).map rt)] = some (.sh (.bl (decide ((us++[z]).length <= 4) && (us++[z]).all tmB))):=by
  intro us z l
  have:=Yb (xs:=us.map rt) (x:=rt z) (by have:=l.1; simp at *; omega) zbx (wB (l.sub (by simp) fun v hv=>by simp [hv])) (b2:=decide ((us++[z]).length <= 4) && (us++[z]).all tmB) (fun _=>by
   have h:=wB l
   rw [List.map_append] at h
   exact h)
  rw [List.map_append]
  refine Eq.trans this ?_
  rw [if_neg Bool.false_ne_true,List.length_map,List.length_append]
  simp only [List.length_cons,List.length_nil]
  cases decide (us.length + (0 + 1) <= 4) <;> simp_all
 rcases Zg r with rfl | ⟨z,rfl⟩ | ⟨us,y,z,rfl⟩
 ·kernel_rfl
 ·by_cases hz : z = wCount
  ·subst hz; kernel_rfl
  ·have e1 : hT [z] = ([]++[z]).map rt:=by simp [hT,hz]
   have e2 : okH [z] = (decide (([]++[z] : List W).length <= 4) && ([]++[z] : List W).all tmB):=by simp [okH,hz]
   rw [e1,e2]
   exact plain [] z lb
 ·by_cases hz : z = wCount
  ·have e1 : hT (us++[y,z]) = (us++[y]).map rt++[.tup [sD wCount]]:=by simp [hT,hz]
   have e2 : okH (us++[y,z]) = (decide ((us++[y]).length + 1 <= 4) && (us++[y]).all tmB):=by simp [okH,hz]
   rw [e1,e2]
   have lb' : LB (us++[y]):=lb.sub (by simp) fun v hv=>by simp at hv ⊢; rcases hv with h | h <;> simp [h]
   have:=Yb (xs:=(us++[y]).map rt) (x:=.tup [sD wCount]) (b2:=false) (by have:=lb.1; simp at *; omega) VI (wB lb') (fun h=>by cases h)
   refine Eq.trans this ?_
   rw [if_pos rfl,List.length_map]
   by_cases c : (us++[y]).length + 1 <= 4
   ·rw [decide_eq_true c,decide_eq_true (show (us++[y]).length <= 4 by omega)]; rfl
   ·rw [decide_eq_false c]; rfl
  ·by_cases hy : y = wSum \/ y = wLeast
   ·have e1 : hT (us++[y,z]) = us.map rt++[.tup [sD y,sD z]]:=by simp [hT,hz,hy]
    have e2 : okH (us++[y,z]) = (decide (us.length + 1 <= 4) && (vrB z && us.all tmB)):=by simp [okH,hz,hy]
    rw [e1,e2]
    have lb' : LB us:=lb.sub (by simp) fun v hv=>by simp [hv]
    have all2 : M_are_terms [.tup (us.map rt++[.tup [sD y,sD z]])] = some (.sh (.bl false)):=by
     have:=zbv (f:=fun o : Option W=>match o with | some w=>rt w | none=>.tup [sD y,sD z]) (p:=fun o : Option W=>match o with | some w=>tmB w | none=>false) (xs:=us.map some++[none]) (by have:=lb.1; simp at *; omega) (fun o ho=>by
      cases o with
      | none=>exact Tf
      | some w=>exact YZ (lb'.2 w (by simpa using ho)))
     rw [List.map_append,List.map_map] at this
     refine Eq.trans this ?_
     simp
    have:=Yb (xs:=us.map rt) (x:=.tup [sD y,sD z]) (by have:=lb.1; simp at *; omega) (JE hy (lb.2 z (by simp))) (wB lb') (fun _=>all2)
    refine Eq.trans this ?_
    rw [List.length_map]
    by_cases c : us.length + 1 <= 4
    ·rw [decide_eq_true c,decide_eq_true (show us.length <= 4 by omega)]
     cases vrB z <;> rfl
    ·rw [decide_eq_false c]; rfl
   ·have e1 : hT (us++[y,z]) = ((us++[y])++[z]).map rt:=by simp [hT,hz,hy]
    have e2 : okH (us++[y,z]) = (decide (((us++[y])++[z]).length <= 4) && ((us++[y])++[z]).all tmB):=by simp [okH,hz,hy]
    rw [e1,e2]
    exact plain (us++[y]) z (by simpa using lb)
def rD (hd : List W) (bd : List (List W)) : D:=.tup [sD (hd.head?.getD []),.tup (hT (hd.drop 1)),.tup (bd.map lD)]
def okR (hd : List W) (bd : List (List W)) : Bool:=nmB (hd.head?.getD []) && (okH (hd.drop 1) && okB bd)
structure Pt (hd : List W) (bd : List (List W)) : Prop where
 h1 : hd ≠ []
 lb : LB hd
 pn : ∀ p ∈ bd,p ≠ [] /\ LB p
 pl : bd.length <= 100
theorem Pt.hd {hd : List W} {bd : List (List W)} (h : Pt hd bd) : (hd.head?.getD []).length <= 100:=by
 have:=h.h1
 cases hd with
 | nil=>exact absurd rfl this
 | cons w r=>exact h.lb.2 w (by simp)
theorem Pt.rest {hd : List W} {bd : List (List W)} (h : Pt hd bd) : LB (hd.drop 1):=h.lb.sub (by simp) fun v hv=>List.drop_subset _ _ hv
theorem Tg {hd : List W} {bd : List (List W)} {vs : List D} (h : Pt hd bd) (ok : okR hd bd = true) (hv : M_rule_variables [rD hd bd] = some (.fr (.lst vs))) : M_is_rule [rD hd bd] = some (.sh (.bl (decide (vs.length <= 4)))):=by
 unfold okR at ok
 rw [Bool.and_eq_true,Bool.and_eq_true] at ok
 obtain ⟨h1,h2,h3⟩:=ok
 refine Op.eq ?_
 unfold M_is_rule qz
 have e : rD hd bd = .tup [sD (hd.head?.getD []),.tup (hT (hd.drop 1)),.tup (bd.map lD)]:=rfl
 rw [e] at hv ⊢
 walk_at "wrun"
 walk_at "wp"
 refine ⟨rfl,?_⟩
 walk_at "wp"
 refine zP (k:=0) rfl ?_
 walk_at "wp"
 refine zt (Zd (Nat.le_trans h.hd (by decide))) ?_
 rw [h1]
 walk_at "wp"
 refine zP (k:=1) rfl ?_
 walk_at "wp"
 refine zt (JF h.rest) ?_
 rw [h2]
 walk_at "wp"
 refine zP (k:=2) rfl ?_
 walk_at "wp"
 refine zt (Te h.pn h.pl) ?_
 rw [h3]
 walk_at "wp"
 refine zt hv ?_
 walk_at "wp"
 refine zt (d:=.bl (decide (vs.length <= 4))) (by show some (D.bl (decide ((vs.length : Int) <= 4))) = _; congr 2; exact decide_eq_decide.mpr (by omega)) ?_
 rfl
def prs (ws : List W) : List W × List W:=(ptW ws).getD (ws,[[]])
theorem VJ : ∀ {ws : List W} {p : List W × List W},ptW ws = some p->p.1.length <= ws.length /\ p.2.length <= ws.length /\ (∀ w ∈ p.1,w ∈ ws) /\ ∀ w ∈ p.2,w ∈ ws
 | [],_,h=>by simp [ptW] at h
 | [_],_,h=>by simp [ptW] at h
 | w::x::r,p,h=>by
  rw [ptW] at h
  split at h
  ·cases h
   exact ⟨by simp,by simp; omega,fun v hv=>by simp at hv; simp [hv],fun v hv=>by simp [hv]⟩
  ·obtain ⟨q,e,rfl⟩:=omE h
   obtain ⟨a1,a2,a3,a4⟩:=VJ e
   refine ⟨by simp at *; omega,by simp at *; omega,fun v hv=>?_,fun v hv=>List.mem_cons_of_mem _ (a4 v hv)⟩
   rcases List.mem_cons.mp hv with rfl | hv
   ·exact List.mem_cons_self
   ·exact List.mem_cons_of_mem _ (a3 v hv)
theorem Qc {ws : List W} (h : Tx ws) : Tx (prs ws).1 /\ Tx (prs ws).2:=by
 unfold prs
 cases e : ptW ws with
 | none=>exact ⟨h,⟨by simp,fun w hw=>by simp at hw; subst hw; simp,fun w hw=>by simp at hw; subst hw; simp,by simp⟩⟩
 | some p=>
  obtain ⟨a1,a2,a3,a4⟩:=VJ e
  obtain ⟨n1,n2⟩:=Vx e
  exact ⟨⟨n1,fun w hw=>h.nb w (a3 w hw),fun w hw=>h.lb w (a3 w hw),Nat.le_trans a1 h.le⟩,⟨n2,fun w hw=>h.nb w (a4 w hw),fun w hw=>h.lb w (a4 w hw),Nat.le_trans a2 h.le⟩⟩
theorem Yc : ∀ {ws : List W},(∀ w ∈ ws,w.length <= 40)->(bpW ws).length <= ws.length + 1 /\ ∀ p ∈ bpW ws,p.length <= ws.length /\ ∀ w ∈ p,w.length <= 40
 | [],_=>by simp [bpW]
 | [w],h=>by simp [bpW]; exact h w (by simp)
 | w::x::r,h=>by
  obtain ⟨a1,a2⟩:=Yc (ws:=x::r) fun v hv=>h v (List.mem_cons_of_mem _ hv)
  have hw:=h w (by simp)
  rw [bpW]
  split
  ·refine ⟨by simp at *; omega,fun p hp=>?_⟩
   rcases List.mem_cons.mp hp with rfl | hp
   ·exact ⟨by simp,fun v hv=>by rw [List.mem_singleton.mp hv]; simp; omega⟩
   ·obtain ⟨b1,b2⟩:=a2 p hp
    exact ⟨by simp at *; omega,b2⟩
  ·cases e : bpW (x::r) with
   | nil=>exact ⟨by simp [Z4],fun p hp=>by simp [Z4] at hp; subst hp; exact ⟨by simp,fun v hv=>by rw [List.mem_singleton.mp hv]; exact hw⟩⟩
   | cons q qs=>
    rw [e] at a1 a2
    refine ⟨by simp [Z4] at *; omega,fun p hp=>?_⟩
    rcases List.mem_cons.mp hp with rfl | hp
    ·obtain ⟨b1,b2⟩:=a2 q List.mem_cons_self
     exact ⟨by simp at *; omega,fun v hv=>(List.mem_cons.mp hv).elim (fun e=>e ▸ hw) (b2 v)⟩
    ·obtain ⟨b1,b2⟩:=a2 p (List.mem_cons_of_mem _ hp)
     exact ⟨by simp at *; omega,b2⟩
theorem zby {ws : List W} (h : Tx ws) : Pt (prs ws).1 (bpW (prs ws).2):=by
 obtain ⟨t1,t2⟩:=Qc h
 obtain ⟨b1,b2⟩:=Yc t2.lb
 have:=t2.le
 exact ⟨t1.ne,t1.LB,fun p hp=>⟨(YW t2.ne).2 p hp,⟨by have:=(b2 p hp).1; omega,fun w hw=>Nat.le_trans ((b2 p hp).2 w hw) (by decide)⟩⟩,by omega⟩
theorem zb8 : (" if " : Str) = S yIf:=by decide +kernel
theorem zdH : (", " : Str) = S yCo:=by decide +kernel
def ER (t : Str) (d1 d2 d3 d4 : D) : En:=[some (.sh (.str t)),some (.sh d1),some (.sh d2),some (.sh d3),some (.sh d4)]
theorem zbz {ws : List W} {R : D->Prop} (h : Tx ws) (k : ∀ b : D,R (.tup [sD (jB (prs ws).1),b,sD (jB (prs ws).2)])) : Op (ZU (.str (S (jB ws))) (.str " if ")) R:=by
 have e : ZU (.str (S (jB ws))) (.str " if ") = some (.tup ((t5 (S (jB ws)) (S yIf)).map D.str)):=by
  rw [zb8]
  show (if _ /\ _ then _ else _) = _
  rw [if_pos ⟨rfl,by rw [yP]; exact zE h.len⟩]
 rw [e,Jo (by decide),zbg h.ne h.nb]
 unfold prs at k
 cases hp : ptW ws with
 | none=>rw [hp] at k; exact op_some (k (.str (S [])))
 | some p=>rw [hp] at k; exact op_some (k (.str (S yIf)))
theorem Th {ws : List W} (h : Tx ws) : ∃ d1 d2 d3,yU [some (.sh (.str (S (jB ws)))),none,none,none,none] =
  zA (sIf (xO (fB (zM (zr M_is_rule (zi (zU 4) fNil))))) (zA (qj "NoText" (zi (fC (.str "this text is no rule")) fNil)) sNil) sNil) (zA (ve 4) sNil) (ER (S (jB ws)) d1 d2 d3 (rD (prs ws).1 (bpW (prs ws).2))):=by
 obtain ⟨t1,t2⟩:=Qc h
 have P:=zby h
 obtain ⟨b1,b2⟩:=Yc t2.lb
 have bn:=T6 t2.nb
 have l2:=t2.le
 obtain ⟨bb,e1⟩ : ∃ b,yu 1 (f2 ZU (zU 0) (fC (.str " if "))) [some (.sh (.str (S (jB ws)))),none,none,none,none] = some (.nx [some (.sh (.str (S (jB ws)))),some (.sh (.tup [sD (jB (prs ws).1),b,sD (jB (prs ws).2)])),none,none,none]):=by
  have : So (yu 1 (f2 ZU (zU 0) (fC (.str " if "))) [some (.sh (.str (S (jB ws)))),none,none,none,none]) (fun δ=>∃ b,δ = [some (.sh (.str (S (jB ws)))),some (.sh (.tup [sD (jB (prs ws).1),b,sD (jB (prs ws).2)])),none,none,none]) (fun _ _=>False):=by
   walk_at "wp"
   refine zbz h fun b=>?_
   walk_at "wp"
   exact ⟨b,rfl⟩
  obtain ⟨u,e,k⟩:=this
  cases u with
  | nx δ=>obtain ⟨b,rfl⟩:=k; exact ⟨b,e⟩
  | rt r δ=>exact k.elim
  | bk δ=>exact k.elim
  | ct δ=>exact k.elim
  | ex c δ=>exact k.elim
 refine ⟨.tup [sD (jB (prs ws).1),bb,sD (jB (prs ws).2)],.lst ((prs ws).1.map sD),.lst ((bpW (prs ws).2).map lD),?_⟩
 unfold yU
 rw [uz e1]
 rw [uz (δ':=[some (.sh (.str (S (jB ws)))),some (.sh (.tup [sD (jB (prs ws).1),bb,sD (jB (prs ws).2)])),some (.sh (.lst ((prs ws).1.map sD))),none,none])]
 ·rw [uz (δ':=[some (.sh (.str (S (jB ws)))),some (.sh (.tup [sD (jB (prs ws).1),bb,sD (jB (prs ws).2)])),some (.sh (.lst ((prs ws).1.map sD))),some (.sh (.lst ((bpW (prs ws).2).map lD))),none])]
  ·rw [uz (δ':=ER (S (jB ws)) (.tup [sD (jB (prs ws).1),bb,sD (jB (prs ws).2)]) (.lst ((prs ws).1.map sD)) (.lst ((bpW (prs ws).2).map lD)) (rD (prs ws).1 (bpW (prs ws).2)))]
   refine VG ?_
   unfold rD
   have lr:=P.rest
   have hn:=P.h1
   generalize (prs ws).1 = hd at *
   cases hd with
   | nil=>exact absurd rfl hn
   | cons w0 r=>
    walk_at "wp"
    refine yI (k:=0) rfl ?_
    walk_at "wp"
    rw [List.map_cons,XI]
    refine zt (zbu (r:=r) lr) ?_
    walk_at "wp"
    refine ⟨(by show (3 : Nat) <= sizeLine; decide),?_⟩
    walk_at "wp"
    rfl
  ·refine VG ?_
   walk_at "wp"
   refine uT ?_
   walk_at "wp"
   refine zP (k:=2) rfl ?_
   walk_at "wp"
   refine jt zdH (by decide) (by decide) t2.len ?_
   rw [zbh t2.ne t2.nb,List.map_map]
   walk_at "wp"
   refine ⟨zE (by rw [List.length_map]; omega),yz (k:=sD ∘ jB) (hh:=lD) (fun p hp=>?_) ?_⟩
   ·walk_at "wp"
    refine zt (zcR (p:=p) (P.pn p hp).1 (bn p hp) (P.pn p hp).2 (by have:=wA (b2 p hp).2; have:=(b2 p hp).1; omega)) ?_
    walk_at "wp"
    rfl
   ·walk_at "wp"
    rfl
 ·refine VG ?_
  walk_at "wp"
  refine uT ?_
  walk_at "wp"
  refine zP (k:=0) rfl ?_
  walk_at "wp"
  refine jt wz (by decide) (by decide) t1.len ?_
  rw [U6 t1.ne t1.nb]
  walk_at "wp"
  rfl
theorem JG {t : Str} {d1 d2 d3 d4 : D} {b : Bool} (h : M_is_rule [d4] = some (.sh (.bl b))) : xO (fB (zM (zr M_is_rule (zi (zU 4) fNil)))) (ER t d1 d2 d3 d4) = some (!b):=by
 refine Op.eq ?_
 unfold ER
 walk_at "wp"
 refine zt h ?_
 walk_at "wp"
 rfl
theorem zcU {ws : List W} (h : Tx ws) (ok : M_is_rule [rD (prs ws).1 (bpW (prs ws).2)] = some (.sh (.bl true))) : M_read_rule [.str (S (jB ws))] = some (.sh (rD (prs ws).1 (bpW (prs ws).2))):=by
 obtain ⟨d1,d2,d3,e⟩:=Th h
 have e2 : yU [some (.sh (.str (S (jB ws)))),none,none,none,none] = some (.rt (.sh (rD (prs ws).1 (bpW (prs ws).2))) (ER (S (jB ws)) d1 d2 d3 (rD (prs ws).1 (bpW (prs ws).2)))):=by
  rw [e,uz (δ':=ER (S (jB ws)) d1 d2 d3 (rD (prs ws).1 (bpW (prs ws).2)))]
  ·exact T9 rfl
  ·rw [zdj (by rw [JG ok]; rfl)]
   rfl
 unfold M_read_rule yN
 rw [if_pos (show [D.str (S (jB ws))].length = 1 from rfl)]
 show (match yU [some (.sh (.str (S (jB ws)))),none,none,none,none] with | some (.rt d _)=>some d | some (.nx _)=>some (.sh .non) | _=>none) = _
 rw [e2]
open PySem.NumText (digitsVal AllDigits)
theorem Qd {p : Nat->Bool} {c : Nat} {w : W} (hw : c ∈ w) (h : p c = false) : w.all p = false:=by
 cases e : w.all p with
 | false=>rfl
 | true=>rw [List.all_eq_true.mp e c hw] at h; cases h
theorem XM {p q : W} : S p++S q = S (p++q):=by
 show (⟨p.toArray++q.toArray⟩ : Str) = ⟨(p++q).toArray⟩
 simp
theorem jw {p q : W} {R : D->Prop} (h : p.length + q.length <= 9000) (k : R (.str (S (p++q)))) : Op (addD (.str (S p)) (.str (S q))) R:=by
 refine zt (add_str (by rw [yP,yP,sizeLine_eq]; omega)) ?_
 rw [XM]; exact k
def dg (m : Nat) : W:=(Nat.toDigits 10 m).map Char.toNat
theorem zdI : ∀ d : Nat,d < 10->(Nat.digitChar d).toNat = 48 + d:=by decide
theorem Y0 {m : Nat} (h : m < 10) : dg m = [48 + m]:=by
 unfold dg
 rw [Nat.toDigits_of_lt_base h]
 show [(Nat.digitChar m).toNat] = _
 rw [zdI m h]
theorem VL {m : Nat} (h : ¬ m < 10) : dg m = dg (m / 10)++[48 + m % 10]:=by
 have hm : m % 10 < 10:=Nat.mod_lt m (by decide)
 have t : Nat.toDigits 10 (m / 10)++Nat.toDigits 10 (m % 10) = Nat.toDigits 10 (10 * (m / 10) + m % 10):=Nat.toDigits_append_toDigits (by decide) (by omega) hm
 rw [Nat.div_add_mod] at t
 unfold dg
 rw [<- t,List.map_append]
 congr 1
 exact Y0 hm
theorem jx : ∀ (k m : Nat),1 <= m->m < 10 ^ k->(dg m).all figC = true /\ (∃ c r,dg m = c::r /\ 49 <= c) /\ (dg m).length <= k
 | 0,m,h1,h2=>by simp at h2; omega
 | k + 1,m,h1,h2=>by
  by_cases h : m < 10
  ·rw [Y0 h]
   refine ⟨?_,⟨48 + m,[],rfl,by omega⟩,by simp⟩
   simp [figC]; omega
  ·rw [VL h]
   obtain ⟨a1,⟨c,r,e,hc⟩,a3⟩:=jx k (m / 10) (by omega) (by rw [Nat.pow_succ] at h2; omega)
   refine ⟨?_,⟨c,r++[48 + m % 10],by rw [e]; rfl,hc⟩,by simp; omega⟩
   rw [List.all_append,a1]
   simp [figC]; omega
theorem Qe (m : Nat) : digitsVal (dg m) = m:=PySem.W.KIN.val_back m
def tz (z : Int) : W:=if z < 0 then 45::dg z.natAbs else dg z.natAbs
theorem Y1 {z : Int} (h : z < 0) : tz z = 45::dg z.natAbs:=if_pos h
theorem qJ {z : Int} (h : ¬ z < 0) : tz z = dg z.natAbs:=if_neg h
theorem zbA (z : Int) : Str.ofString (toString z) = S (tz z):=by
 have nat : ∀ m : Nat,Str.ofString (toString ((m : Nat) : Int)) = S (dg m):=fun m=>by
  have:=PySem.W.KIN.signs_num m
  have e2 : (Str.ofString (toString ((m : Nat) : Int))).cps = (dg m).toArray:=by
   rw [show dg m = (Nat.toDigits 10 m).map Char.toNat from rfl,<- this]
  exact (congrArg Str.mk e2 : Str.mk _ = Str.mk _)
 cases z with
 | ofNat m=>rw [qJ (by simp)]; exact nat m
 | negSucc m=>
  rw [Y1 (Int.negSucc_lt_zero m)]
  have e2 : (Str.ofString (toString (Int.negSucc m))).cps = (45::dg (m + 1)).toArray:=by
   apply Array.toList_inj.mp
   rw [PyProof.Rows.signs_ofString]
   show (("-" : String)++Nat.repr (m + 1)).toList.map Char.toNat = _
   rw [String.toList_append,List.map_append,Nat.toList_repr]
   rfl
  exact (congrArg Str.mk e2 : Str.mk _ = Str.mk _)
theorem str_int {z : Int} (h : z.natAbs < 10 ^ 30) : strT [.int z] = some (.str (S (tz z))):=by
 show (if z.natAbs.log2 < 1920 then some (D.str (Str.ofString (toString z))) else none) = _
 rw [if_pos,zbA]
 by_cases h0 : z.natAbs = 0
 ·rw [h0]; decide
 ·exact (Nat.log2_lt h0).mpr (Nat.lt_of_lt_of_le h (by decide +kernel))
theorem zcV : dg 0 = [48]:=Y0 (by decide)
theorem VM {m : Nat} : uS (dg m) = dg m:=by
 by_cases h0 : m = 0
 ·subst h0; rw [zcV]; rfl
 ·obtain ⟨_,⟨c,r,e,hc⟩,_⟩:=jx (m + 1) m (by omega) (Nat.lt_of_lt_of_le (Nat.lt_pow_self (by decide)) (Nat.pow_le_pow_right (by decide) (Nat.le_succ m)))
  rw [e]
  unfold uS
  split
  ·rename_i e; cases e; omega
  ·rfl
theorem zcW {w : W} (h : uS w = w) (hn : w ≠ []) : nv w = ((digitsVal w : Nat) : Int):=by
 unfold nv
 split
 ·rename_i r
  have : r = 45::r:=h
  exact absurd (congrArg List.length this) (by simp)
 ·rfl
theorem zcX {m : Nat} : dg m ≠ []:=by
 by_cases h : m < 10
 ·rw [Y0 h]; simp
 ·rw [VL h]; simp
theorem zbB {z : Int} (h : z.natAbs < 10 ^ 30) : (tz z).length <= 31:=by
 by_cases h0 : z = 0
 ·subst h0; rw [qJ (by decide),show Int.natAbs 0 = 0 from rfl,zcV]; simp
 ·obtain ⟨_,_,l⟩:=jx 30 z.natAbs (by omega) h
  by_cases hz : z < 0
  ·rw [Y1 hz]; simp; omega
  ·rw [qJ hz]; omega
theorem VN {z : Int} (h : z.natAbs < 10 ^ 30) : qI (tz z) = true:=by
 by_cases h0 : z = 0
 ·subst h0; rw [qJ (by decide),show Int.natAbs 0 = 0 from rfl,zcV]; decide
 ·obtain ⟨f,⟨c,r,e,hc⟩,l⟩:=jx 30 z.natAbs (by omega) h
  have key : ∀ w : W,uS w = dg z.natAbs->qI w = true:=fun w hw=>by
   unfold qI
   rw [hw,f,decide_eq_true l,e]
   have : ((c::r).head? == some 48) = false:=by simp; omega
   rw [this]
   simp
  by_cases hz : z < 0
  ·rw [Y1 hz]; exact key _ rfl
  ·rw [qJ hz]; exact key _ VM
theorem zcY {z : Int} : nv (tz z) = z:=by
 by_cases hz : z < 0
 ·rw [Y1 hz]
  show -((digitsVal (dg z.natAbs) : Nat) : Int) = z
  rw [Qe]; omega
 ·rw [qJ hz,zcW VM zcX,Qe]; omega
theorem Ti {z : Int} (h : z.natAbs < 10 ^ 30) : rt (tz z) = .int z:=by unfold rt; rw [VN h,if_pos rfl,zcY]
structure Good (w : W) : Prop where
 tm : tmB w = true
 st : strT [rt w] = some (.str (S w))
 le : w.length <= 31
theorem zcZ : ∀ k ∈ kws,tmB k = false:=by decide
theorem Good.kw {w : W} (h : Good w) : w ∉ kws:=fun hk=>by have:=zcZ w hk; rw [h.tm] at this; cases this
theorem Yd {c : Nat} (h : figC c = true) : c ≠ 32 /\ c ≠ 44:=by
 unfold figC at h; rw [Bool.and_eq_true,decide_eq_true_iff,decide_eq_true_iff] at h; omega
theorem Zh {c : Nat} (h : yL c = true) : c ≠ 32 /\ c ≠ 44:=by
 unfold yL at h; rw [Bool.and_eq_true,decide_eq_true_iff,decide_eq_true_iff] at h; omega
theorem zbC {c : Nat} (h : anC c = true) : c ≠ 32 /\ c ≠ 44:=by
 unfold anC at h
 rw [Bool.or_eq_true,Bool.or_eq_true] at h
 rcases h with h | h | h
 ·exact Zh h
 ·unfold XH at h; rw [Bool.and_eq_true,decide_eq_true_iff,decide_eq_true_iff] at h; omega
 ·exact Yd h
theorem JH {w : W} (h : (uS w).all figC = true) {c : Nat} (hc : c ∈ w) : c ≠ 32 /\ c ≠ 44:=by
 unfold uS at h
 split at h
 ·rcases List.mem_cons.mp hc with rfl | hc
  ·decide
  ·exact Yd (List.all_eq_true.mp h c hc)
 ·exact Yd (List.all_eq_true.mp h c hc)
theorem zbD {w : W} (h : tmB w = true) {c : Nat} (hc : c ∈ w) : c ≠ 32 /\ c ≠ 44:=by
 unfold tmB at h
 rw [Bool.or_eq_true,Bool.or_eq_true] at h
 rcases h with h | h | h
 ·unfold qI at h
  rw [Bool.and_eq_true,Bool.and_eq_true] at h
  exact JH h.1.2 hc
 ·unfold nmB at h
  rw [Bool.and_eq_true] at h
  exact Zh (List.all_eq_true.mp h.2 c hc)
 ·unfold vrB at h
  rw [Bool.and_eq_true] at h
  exact zbC (List.all_eq_true.mp h.2 c hc)
theorem Good.nb {w : W} (h : Good w) : 32 ∉ w:=fun hc=>(zbD h.tm hc).1 rfl
theorem Good.last {w : W} (h : Good w) : w.getLast? ≠ some 44:=fun e=>(zbD h.tm (List.mem_of_getLast? e)).2 rfl
theorem jy {z : Int} (h : z.natAbs < 10 ^ 30) : Good (tz z):=⟨by unfold tmB; rw [VN h]; rfl,by rw [Ti h]; exact str_int h,zbB h⟩
theorem Tj {w : W} (h : nmB w = true) : 1 <= w.length /\ w.length <= 8 /\ w ∉ kws /\ ∀ c ∈ w,yL c = true:=by
 unfold nmB at h
 rw [Bool.and_eq_true,Bool.and_eq_true,vX] at h
 obtain ⟨⟨⟨h1,h2⟩,h3⟩,h4⟩:=h
 exact ⟨h1,h2,by simpa using h3,List.all_eq_true.mp h4⟩
theorem VO {w k : W} (h : nmB w = true) (hk : k ∈ kws) : w ≠ k:=fun e=>(Tj h).2.2.1 (e ▸ hk)
theorem JI (c : Int) (n : Nat) (hn : n <= 100) : Op (M__law_names [.int c,.int n]) fun r=>∃ zs : List W,r = .fr (.lst (zs.map sD)) /\ zs.length = n /\ ∀ z ∈ zs,nmB z = true:=by
 unfold M__law_names vt
 walk_at "wrun"
 walk_at "wp"
 have h8 : (0 : Int) < 1 + c % 8:=by have:=Int.emod_nonneg c (show (8 : Int) ≠ 0 by decide); omega
 have h9 : 1 + c % 8 <= 8:=by have:=Int.emod_lt_of_pos c (show (0 : Int) < 8 by decide); omega
 try refine o_mod h8 ?_
 walk_at "wp"
 obtain ⟨r,er,xs,rfl,hx⟩:=YV (c / 64) 8 (by decide)
 refine zt er ?_
 walk_at "wp"
 refine ⟨zE (by rw [List.length_map]; omega),yz (hh:=fun i : Int=>.int (i % 26)) (fun i _=>?_) ?_⟩
 ·walk_at "wp"
  rfl
 ·walk_at "wp"
  refine ⟨Nat.zero_le _,?_⟩
  walk_at "wp"
  refine ⟨by omega,?_⟩
  rw [Int.toNat_natCast]
  generalize hs : 1 + c % 8 = s at *
  generalize ha : c / 8 % s = at_
  refine xH (fun k δ=>∃ (zs : List W) (x y : Option Sl),δ = [some (.sh (.int c)),some (.sh (.int n)),some (.sh (.str "abcdefghijklmnopqrstuvwxyz")),some (.sh (.int s)),some (.sh (.int at_)),some (.sh (.lst (xs.map fun i : Int=>D.int (i % 26)))),some (.pv (.lst (zs.map sD)) none),x,y] /\ zs.length = k /\ ∀ z ∈ zs,nmB z = true) ⟨[],_,_,rfl,rfl,fun z h=>nomatch h⟩ ?_ ?_
  ·rintro k x hk δ ⟨zs,x,y,rfl,hz,hlow⟩
   obtain ⟨hkn,rfl⟩:=qF hk
   dsimp only [List.set]
   walk_at "wp"
   obtain ⟨m,rfl⟩ : ∃ m : Nat,s = m:=⟨s.toNat,by omega⟩
   refine ⟨by omega,?_⟩
   rw [Int.toNat_natCast]
   refine ⟨by rw [jr,List.length_map,List.length_range]; exact zE (by omega),jd (Q:=fun y=>∃ c : Nat,y = .str ⟨#[c]⟩ /\ yL c = true) (fun d hd=>?_) fun ys hys hall=>?_⟩
   ·rw [jr] at hd
    obtain ⟨j,hj,rfl⟩:=List.mem_map.mp hd
    have hj:=List.mem_range.mp hj
    walk_at "wp"
    refine yI (x:=.int (xs[j]'(by omega) % 26)) (by rw [List.getElem?_map,List.getElem?_eq_getElem (by omega)]; rfl) ?_
    walk_at "wp"
    try refine o_mul ?_ ?_
    ·exact Or.inr (by by_cases h : ((j : Int) = at_) <;> simp [h])
    walk_at "wp"
    refine Jt (by decide +kernel) (Int.emod_nonneg _ (by decide)) ?_ fun c hc=>⟨c,rfl,U5 hc⟩
    exact Int.lt_of_lt_of_le (Int.emod_lt_of_pos _ (by decide)) (by decide +kernel)
   ·have hys' : ys.length = m:=by rw [hys]; simp [wV]
    obtain ⟨ls,rfl,hls⟩:=Z1 (n:=0) hall
    rw [List.length_map] at hys'
    walk_at "wp"
    refine zbe (by omega) ?_
    walk_at "wpn"
    refine qm (fun δ=>∃ w : W,nmB w = true /\ δ = [some (.sh (.int c)),some (.sh (.int n)),some (.sh (.str "abcdefghijklmnopqrstuvwxyz")),some (.sh (.int m)),some (.sh (.int at_)),some (.sh (.lst (xs.map fun i : Int=>D.int (i % 26)))),some (.pv (.lst (zs.map sD)) none),some (.sh (.int k)),some (.sh (sD w))]) ?_ ?_
    ·walk_at "wp"
     refine ⟨by decide +kernel,?_⟩
     rw [show ([.str "not",.str "if",.str "under",.str "unlike",.str "sum",.str "least",.str "count"] : List D) = kws.map fun k=>.str (S k) by
      have:=YX
      unfold tM at this
      exact D.tup.inj this]
     refine zbd (VD (w:=ls) (by omega) (by omega)) YY fun b hb=>?_
     rw [zbl] at hb
     walk_at "wp"
     refine Jr b (fun hb1=>?_) fun hb1=>?_
     ·walk_at "wp"
      have hx : ("x" : Str) = S [120]:=by decide +kernel
      rw [hx]
      refine jw (by simp; omega) ?_
      walk_at "wp"
      refine ⟨120::ls,?_,rfl⟩
      have : ∀ k ∈ kws,nmB (120::k) = true:=by decide
      exact this ls (hb.mp hb1)
     ·walk_at "wp"
      refine ⟨ls,?_,rfl⟩
      have hn : ls ∉ kws:=fun h=>by rw [hb.mpr h] at hb1; cases hb1
      unfold nmB
      rw [vX.mpr ⟨by omega,by omega⟩,decide_eq_false hn,List.all_eq_true.mpr hls]
      rfl
    ·rintro δ ⟨w,lw,rfl⟩
     walk_at "wp"
     refine ⟨XG (by rw [List.length_map]; omega),?_⟩
     walk_at "wp"
     exact ⟨zs++[w],_,_,by rw [List.map_append]; rfl,by simp [hz],fun v hv=>(List.mem_append.mp hv).elim (hlow v) fun e=>by rw [List.mem_singleton] at e; exact e ▸ lw⟩
  ·rintro δ ⟨zs,x,y,rfl,hz,hlow⟩
   walk_at "wp"
   exact ⟨zs,rfl,by rw [hz]; simp [wV],hlow⟩
theorem Tk {w : W} (h : nmB w = true) : qI w = false:=by
 obtain ⟨h1,h2,h3,h4⟩:=Tj h
 cases w with
 | nil=>simp at h1
 | cons c w=>
  have hc:=h4 c (by simp)
  unfold yL at hc
  rw [Bool.and_eq_true,decide_eq_true_iff,decide_eq_true_iff] at hc
  have hf : c ∈ uS (c::w):=by
   unfold uS
   split
   ·rename_i e; cases e; omega
   ·simp
  unfold qI
  rw [Qd (p:=figC) hf (by unfold figC; rw [decide_eq_false (show ¬ c <= 57 by omega),Bool.and_false])]
  simp
theorem xn {w : W} (h : nmB w = true) : rt w = sD w:=by unfold rt; rw [Tk h]; rfl
theorem VP {w : W} (h : nmB w = true) : isU w = false:=by
 unfold isU
 rw [decide_eq_false (VO h (by decide)),decide_eq_false (VO h (by decide))]; rfl
theorem VQ {w : W} (h : vrB w = true) : qI w = false:=by
 unfold vrB at h
 rw [Bool.and_eq_true,Bool.and_eq_true] at h
 cases w with
 | nil=>exact absurd h.1.2 (by decide)
 | cons c w=>
  have hc : XH c = true:=h.1.2
  unfold XH at hc
  rw [Bool.and_eq_true,decide_eq_true_iff,decide_eq_true_iff] at hc
  have hf : c ∈ uS (c::w):=by
   unfold uS
   split
   ·rename_i e; cases e; omega
   ·simp
  unfold qI
  rw [Qd (p:=figC) hf (by unfold figC; rw [decide_eq_false (show ¬ c <= 57 by omega),Bool.and_false])]
  simp
theorem Zi {w : W} (h : vrB w = true) : rt w = sD w:=by unfold rt; rw [VQ h]; rfl
theorem zbE {w : W} (h : vrB w = true) : w.length <= 8:=by
 unfold vrB at h
 rw [Bool.and_eq_true,Bool.and_eq_true,vX] at h
 exact h.1.1.2
theorem Zj {w : W} (h : nmB w = true) : Good w:=⟨by unfold tmB; rw [h]; simp,by rw [xn h]; rfl,by have:=(Tj h).2.1; omega⟩
theorem vF {w : W} (h : vrB w = true) : Good w:=⟨by unfold tmB; rw [h]; simp,by rw [Zi h]; rfl,by have:=zbE h; omega⟩
theorem JJ {w : W} (h : nmB w = true) : vrB w = false:=by
 obtain ⟨h1,h2,h3,h4⟩:=Tj h
 cases w with
 | nil=>simp at h1
 | cons c w=>
  have hc:=h4 c (by simp)
  unfold yL at hc
  rw [Bool.and_eq_true,decide_eq_true_iff,decide_eq_true_iff] at hc
  have : hdB (c::w) = false:=by show (decide (65 <= c) && decide (c <= 90)) = false; rw [decide_eq_false (show ¬ c <= 90 by omega),Bool.and_false]
  unfold vrB
  rw [this]; simp
theorem Qf {w : W} (h : qI w = true) : vrB w = false:=by
 cases e : vrB w with
 | false=>rfl
 | true=>rw [VQ e] at h; cases h
theorem VR {z : Int} (h : z.natAbs < 10 ^ 30) : cnB (tz z) = true:=by unfold cnB; rw [VN h]; rfl
theorem JK {w : W} (h : nmB w = true) : cnB w = true:=by unfold cnB; rw [h]; simp
theorem zbF {w : W} (h : cnB w = true) : vrB w = false:=by
 unfold cnB at h
 rw [Bool.or_eq_true] at h
 rcases h with h | h
 ·exact Qf h
 ·exact JJ h
theorem jz {w : W} : qZ (rt w) = true:=by unfold rt; split <;> rfl
def St (z : Int) : Prop:=0 <= z /\ z < 2 ^ 31
theorem Zk (c : Int) (n : Nat) (hn : n <= 100) : Op (M__law_stream [.int c,.int n]) fun r=>∃ zs : List Int,r = .fr (.lst (zs.map D.int)) /\ zs.length = n /\ ∀ z ∈ zs,St z:=by
 unfold M__law_stream xm
 walk_at "wrun"
 walk_at "wp"
 refine ⟨Nat.zero_le _,?_⟩
 walk_at "wp"
 refine ⟨by omega,?_⟩
 rw [Int.toNat_natCast]
 have add : ∀ (zs : List Int) (y : Int),(∀ z ∈ zs,St z)->St y->∀ z ∈ zs++[y],St z:=fun zs y h1 h2 z hz=>(List.mem_append.mp hz).elim (h1 z) fun e=>by rw [List.mem_singleton] at e; exact e ▸ h2
 refine xH (fun k δ=>∃ (zs : List Int) (m : Int) (x : Option Sl),δ = [some (.sh (.int c)),some (.sh (.int n)),some (.pv (.lst (zs.map D.int)) none),some (.sh (.int m)),x] /\ zs.length = k /\ ∀ z ∈ zs,St z) ⟨[],_,_,rfl,rfl,fun z h=>nomatch h⟩ ?_ ?_
 ·rintro k x hk δ ⟨zs,m,y,rfl,hz,hs⟩
  obtain ⟨hkn,rfl⟩:=qF hk
  dsimp only [List.set]
  walk_at "wp"
  refine xj (fun h=>?_) fun h=>?_
  ·walk_at "wp"
   refine ⟨XG (by rw [List.length_map]; omega),?_⟩
   walk_at "wp"
   refine ⟨zs++[_],_,_,by rw [List.map_append]; rfl,by simp [hz],add _ _ hs ⟨Int.emod_nonneg _ (by decide),Int.lt_of_lt_of_le (Int.emod_lt_of_pos _ (by decide)) (by decide)⟩⟩
  ·walk_at "wp"
   refine ⟨XG (by rw [List.length_map]; omega),?_⟩
   walk_at "wp"
   refine ⟨zs++[_],_,_,by rw [List.map_append]; rfl,by simp [hz],add _ _ hs ⟨Int.emod_nonneg _ (by decide),Int.lt_of_lt_of_le (Int.emod_lt_of_pos _ (by decide)) (by decide)⟩⟩
 ·rintro δ ⟨zs,m,y,rfl,hz,hs⟩
  walk_at "wp"
  exact ⟨zs,rfl,by rw [hz]; simp [wV],hs⟩
theorem zbG {w : W} {c : Nat} (h : hdB w = true) : hdB (w++[c]) = true:=by
 cases w with
 | nil=>exact absurd h (by decide)
 | cons d w=>exact h
theorem zbH (c : Int) : Op (M__law_variables [.int c]) fun r=>∃ vs : List W,r = .fr (.lst (vs.map sD)) /\ vs.length = 4 /\ ∀ v ∈ vs,vrB v = true:=by
 unfold M__law_variables xx
 walk_at "wrun"
 walk_at "wp"
 have h8 : (0 : Int) < 1 + c % 8:=by have:=Int.emod_nonneg c (show (8 : Int) ≠ 0 by decide); omega
 have h9 : 1 + c % 8 <= 8:=by have:=Int.emod_lt_of_pos c (show (0 : Int) < 8 by decide); omega
 try refine o_mod h8 ?_
 walk_at "wp"
 obtain ⟨r,er,xs,rfl,hx⟩:=YV (c / 64) 8 (by decide)
 refine zt er ?_
 walk_at "wp"
 refine ⟨Nat.zero_le _,?_⟩
 walk_at "wp"
 refine ⟨by decide,?_⟩
 generalize hs : 1 + c % 8 = s at *
 generalize ha : c / 8 % s = at_
 refine xH (fun k δ=>∃ (zs : List W) (x y z : Option Sl),δ = [some (.sh (.int c)),some (.sh (.str "ABCDEFGHIJKLMNOPQRSTUVWXYZ")),some (.sh (.str "abcdefghijklmnopqrstuvwxyz0123456789ABCDEFGHIJKLMNOPQRSTUVWXYZ")),some (.sh (.int s)),some (.sh (.int at_)),some (.sh (.lst (xs.map D.int))),some (.pv (.lst (zs.map sD)) none),x,y,z] /\ zs.length = k /\ ∀ z ∈ zs,vrB z = true) ⟨[],_,_,_,rfl,rfl,fun z h=>nomatch h⟩ ?_ ?_
 ·rintro k x hk δ ⟨zs,x,y,z,rfl,hz,hv⟩
  obtain ⟨hkn,rfl⟩:=qF hk
  have hkn : k < 4:=hkn
  dsimp only [List.set]
  walk_at "wp"
  refine yI (k:=0) (x:=.int (xs[0]'(by omega))) (by rw [List.getElem?_map,List.getElem?_eq_getElem (by omega)]; rfl) ?_
  walk_at "wp"
  refine o_mul T3 ?_
  walk_at "wp"
  refine Jt (by decide +kernel) (Int.emod_nonneg _ (by decide)) (Int.lt_of_lt_of_le (Int.emod_lt_of_pos _ (by decide)) (by decide +kernel)) fun ch hch=>?_
  walk_at "wp"
  refine ⟨by omega,?_⟩
  refine xH (fun j δ=>∃ (w : W) (z : Option Sl),δ = [some (.sh (.int c)),some (.sh (.str "ABCDEFGHIJKLMNOPQRSTUVWXYZ")),some (.sh (.str "abcdefghijklmnopqrstuvwxyz0123456789ABCDEFGHIJKLMNOPQRSTUVWXYZ")),some (.sh (.int s)),some (.sh (.int at_)),some (.sh (.lst (xs.map D.int))),some (.pv (.lst (zs.map sD)) none),some (.sh (.int k)),some (.sh (sD w)),z] /\ w.length = j + 1 /\ hdB w = true /\ w.all anC = true) ⟨[ch],_,rfl,rfl,T4 hch,?_⟩ ?_ ?_
  ·have:=T4 hch
   simp [anC,this]
  ·rintro j x hj δ ⟨w,z,rfl,hw,hh,hall⟩
   have hj2 : j < (s - 1).toNat /\ x = .int (1 + (j : Int)):=by
    have hlt:=(List.getElem?_eq_some_iff.mp hj).1
    have hlt : j < (s - 1).toNat:=by simpa [wV] using hlt
    refine ⟨hlt,?_⟩
    have : (wV 1 (s - 1).toNat)[j]? = some (.int (1 + (j : Int))):=by
     unfold wV
     rw [List.getElem?_map,List.getElem?_range hlt]; rfl
    rw [this] at hj; exact (Option.some.inj hj).symm
   obtain ⟨hjl,rfl⟩:=hj2
   dsimp only [List.set]
   rw [show (1 + (j : Int)) = ((1 + j : Nat) : Int) by omega]
   walk_at "wp"
   refine yI (x:=.int (xs[1 + j]'(by omega))) (by rw [List.getElem?_map,List.getElem?_eq_getElem (by omega)]; rfl) ?_
   walk_at "wp"
   refine o_mul T3 ?_
   walk_at "wp"
   refine Jt (by decide +kernel) (Int.emod_nonneg _ (by decide)) (Int.lt_of_lt_of_le (Int.emod_lt_of_pos _ (by decide)) (by decide +kernel)) fun c2 hc2=>?_
   refine jw (p:=w) (q:=[c2]) (by simp; omega) ?_
   walk_at "wp"
   refine ⟨w++[c2],_,rfl,by simp [hw],zbG hh,?_⟩
   rw [List.all_append,hall]
   have:=Jw hc2
   simp [anC,this]
  ·rintro δ ⟨w,z,rfl,hw,hh,hall⟩
   walk_at "wp"
   refine ⟨XG (by rw [List.length_map]; omega),?_⟩
   walk_at "wp"
   have hw8 : w.length <= 8:=by
    have : (wV 1 (s - 1).toNat).length = (s - 1).toNat:=by simp [wV]
    rw [hw,this]; omega
   have hvr : vrB w = true:=by
    unfold vrB
    rw [hh,hall,vX.mpr ⟨by omega,hw8⟩]; rfl
   exact ⟨zs++[w],_,_,_,by rw [List.map_append]; rfl,by simp [hz],fun v hv'=>(List.mem_append.mp hv').elim (hv v) fun e=>by rw [List.mem_singleton] at e; exact e ▸ hvr⟩
 ·rintro δ ⟨zs,x,y,z,rfl,hz,hv⟩
  walk_at "wp"
  exact ⟨zs,rfl,by rw [hz]; simp [wV],hv⟩
theorem VS {a : Int} (h : 0 <= a) (h' : a < 10 ^ 30) : a.natAbs < 10 ^ 30 /\ (0 - a).natAbs < 10 ^ 30:=by
 constructor <;> omega
theorem qK {x y : Int} (hx : St x) (hy : St y) {zs : List W} (hz : zs.length = 5) (hn : ∀ z ∈ zs,nmB z = true) : Op (M__law_constant [.int x,.int y,.lst (zs.map sD)]) fun r=>∃ w,r = .sh (rt w) /\ Good w /\ cnB w = true:=by
 obtain ⟨hx0,hx1⟩:=hx
 obtain ⟨hy0,hy1⟩:=hy
 unfold M__law_constant xU
 walk_at "wrun"
 walk_at "wp"
 refine Js ?_
 walk_at "wp"
 refine xj (fun h=>?_) fun h=>?_
 ·walk_at "wp"
  refine o_mod (by rw [List.length_map,hz]; decide) ?_
  refine v8 (Int.emod_nonneg _ (by rw [List.length_map,hz]; decide)) (Int.emod_lt_of_pos _ (by rw [List.length_map,hz]; decide)) fun d hd=>?_
  obtain ⟨w,hw,rfl⟩:=List.mem_map.mp hd
  exact ⟨w,by rw [xn (hn w hw)],Zj (hn w hw),JK (hn w hw)⟩
 ·walk_at "wp"
  refine xj (fun h2=>?_) fun h2=>?_
  ·walk_at "wp"
   have h23 : (x / 5 % 23 - 11).natAbs < 10 ^ 30:=by omega
   exact ⟨tz (x / 5 % 23 - 11),by rw [Ti h23],jy h23,VR h23⟩
  ·walk_at "wp"
   refine o_mul (i:=x) (Or.inl ⟨by omega,by omega⟩) ?_
   walk_at "wp"
   generalize hm : (x * 10 ^ Int.toNat 26 + y * 10 ^ Int.toNat 18 + x) % 10 ^ Int.toNat 30 = m
   have hm0 : 0 <= m:=by rw [<- hm]; exact Int.emod_nonneg _ (by decide)
   have hm1 : m < 10 ^ 30:=by rw [<- hm]; exact Int.emod_lt_of_pos _ (by decide)
   obtain ⟨g1,g2⟩:=VS hm0 hm1
   refine ⟨zE (show 2 <= 10000 by decide),?_⟩
   walk_at "wp"
   refine v8 (by omega) (by show x % 5 - 3 < 2; omega) fun d hd=>?_
   rcases List.mem_cons.mp hd with rfl | hd
   ·exact ⟨tz m,by rw [Ti g1],jy g1,VR g1⟩
   ·rw [List.mem_singleton] at hd
    subst hd
    exact ⟨tz (0 - m),by rw [Ti g2],jy g2,VR g2⟩
theorem Ye {α β : Type} {f : α->β} {P : α->Prop} : ∀ {ys : List β},(∀ y ∈ ys,∃ w,y = f w /\ P w)->∃ ws : List α,ys = ws.map f /\ ∀ w ∈ ws,P w
 | [],_=>⟨[],rfl,fun w h=>nomatch h⟩
 | y::ys,h=>by
  obtain ⟨w,rfl,p⟩:=h y (by simp)
  obtain ⟨ws,rfl,q⟩:=Ye (ys:=ys) fun z hz=>h z (List.mem_cons_of_mem _ hz)
  exact ⟨w::ws,rfl,fun v hv=>(List.mem_cons.mp hv).elim (fun e=>e ▸ p) (q v)⟩
theorem VT {a : Int} {n : Nat} {d : D} (h : d ∈ wV a n) : ∃ j : Nat,j < n /\ d = .int (a + (j : Int)):=by
 unfold wV at h
 obtain ⟨j,hj,rfl⟩:=List.mem_map.mp h
 exact ⟨j,List.mem_range.mp hj,rfl⟩
theorem vZ (a : Int) (n : Nat) : (wV a n).length = n:=by simp [wV]
theorem Qg (xs : List D) (n : Nat) : L2.cutD xs none (some (n : Int)) = xs.take n:=by
 unfold L2.cutD
 have e1 : HT.sIx xs.length 0 none = 0:=rfl
 have e2 : HT.sIx xs.length xs.length (some (n : Int)) = min n xs.length:=by simp [HT.sIx]; omega
 rw [e1,e2,List.drop_zero,Nat.sub_zero]
 rcases Nat.le_total n xs.length with h | h
 ·rw [Nat.min_eq_left h]
 ·rw [Nat.min_eq_right h,List.take_of_length_le (Nat.le_refl _),List.take_of_length_le h]
theorem zbI (xs : List D) (n : Nat) : L2.cutD xs (some (n : Int)) none = xs.drop n:=by
 unfold L2.cutD
 have e1 : HT.sIx xs.length 0 (some (n : Int)) = min n xs.length:=by simp [HT.sIx]; omega
 have e2 : HT.sIx xs.length xs.length none = xs.length:=rfl
 rw [e1,e2]
 rcases Nat.le_total n xs.length with h | h
 ·rw [Nat.min_eq_left h,List.take_of_length_le (by simp)]
 ·rw [Nat.min_eq_right h,List.drop_eq_nil_of_le (Nat.le_refl _),List.drop_eq_nil_of_le h]; simp
theorem JL (xs : List D) (n m : Nat) : L2.cutD xs (some (n : Int)) (some (m : Int)) = (xs.drop n).take (m - n):=by
 unfold L2.cutD
 have e1 : HT.sIx xs.length 0 (some (n : Int)) = min n xs.length:=by simp [HT.sIx]; omega
 have e2 : HT.sIx xs.length xs.length (some (m : Int)) = min m xs.length:=by simp [HT.sIx]; omega
 rw [e1,e2]
 rcases Nat.le_total n xs.length with h | h
 ·rw [Nat.min_eq_left h]
  rcases Nat.le_total m xs.length with h' | h'
  ·rw [Nat.min_eq_left h']
  ·rw [Nat.min_eq_right h',List.take_of_length_le (by simp),List.take_of_length_le (by simp; omega)]
 ·rw [Nat.min_eq_right h,List.drop_eq_nil_of_le (Nat.le_refl _),List.drop_eq_nil_of_le h]; simp
theorem VU (c : Int) {zs : List W} (hz : zs.length = 5) (hn : ∀ z ∈ zs,nmB z = true) : Op (M__law_fact [.int c,.lst (zs.map sD)]) fun r=>∃ (w : W) (ws : List W),r = .sh (fD (w::ws)) /\ nmB w = true /\ ws.length <= 4 /\ ∀ v ∈ ws,Good v /\ cnB v = true:=by
 unfold M__law_fact uj
 walk_at "wrun"
 walk_at "wp"
 obtain ⟨r,er,xs,rfl,hx,hs⟩:=Zk c 10 (by decide)
 refine zt er ?_
 walk_at "wp"
 refine yI (k:=0) (x:=.int (xs[0]'(by omega))) (by rw [List.getElem?_map,List.getElem?_eq_getElem (by omega)]; rfl) ?_
 walk_at "wp"
 refine ⟨by omega,?_⟩
 have h5 : (1 + xs[0]'(by omega) % 5 - 1).toNat <= 4:=by omega
 generalize hk : (1 + xs[0]'(by omega) % 5 - 1).toNat = k at *
 refine ⟨by rw [vZ]; exact zE (by omega),jd (Q:=fun y=>∃ w,y = rt w /\ Good w /\ cnB w = true) (fun d hd=>?_) fun ys hy hq=>?_⟩
 ·obtain ⟨j,hj,rfl⟩:=VT hd
  rw [show (1 + (j : Int)) = ((1 + j : Nat) : Int) by omega]
  walk_at "wp"
  rw [show (2 * ((1 + j : Nat) : Int)) = ((2 * (1 + j) : Nat) : Int) by omega]
  refine yI (x:=.int (xs[2 * (1 + j)]'(by omega))) (by rw [List.getElem?_map,List.getElem?_eq_getElem (by omega)]; rfl) ?_
  walk_at "wp"
  rw [show (2 * ((1 + j : Nat) : Int)) + 1 = ((2 * (1 + j) + 1 : Nat) : Int) by omega]
  refine yI (x:=.int (xs[2 * (1 + j) + 1]'(by omega))) (by rw [List.getElem?_map,List.getElem?_eq_getElem (by omega)]; rfl) ?_
  walk_at "wp"
  obtain ⟨r,e,w,rfl,g,cn⟩:=qK (hs _ (List.getElem_mem (by omega : 2 * (1 + j) < xs.length))) (hs _ (List.getElem_mem (by omega : 2 * (1 + j) + 1 < xs.length))) hz hn
  exact zt e ⟨w,rfl,g,cn⟩
 ·obtain ⟨ws,rfl,hw⟩:=Ye hq
  rw [List.length_map,vZ] at hy
  walk_at "wp"
  refine yI (k:=1) (x:=.int (xs[1]'(by omega))) (by rw [List.getElem?_map,List.getElem?_eq_getElem (by omega)]; rfl) ?_
  walk_at "wp"
  refine o_mod (by rw [List.length_map,hz]; decide) ?_
  refine v8 (Int.emod_nonneg _ (by rw [List.length_map,hz]; decide)) (Int.emod_lt_of_pos _ (by rw [List.length_map,hz]; decide)) fun d hd=>?_
  obtain ⟨w,hw0,rfl⟩:=List.mem_map.mp hd
  walk_at "wp"
  refine ⟨zE (show 2 <= 10000 by decide),w,ws,?_,hn w hw0,by omega,hw⟩
  rw [show L2.cutD (ws.map rt) none (some 4) = ws.map rt by rw [show (4 : Int) = ((4 : Nat) : Int) from rfl,Qg,List.take_of_length_le (by rw [List.length_map]; omega)]]
  rfl
theorem Zl {x : Int} (hx : St x) {zs vs : List W} (hz : zs.length = 5) (hn : ∀ z ∈ zs,nmB z = true) (hv : vs.length = 4) (hr : ∀ z ∈ vs,vrB z = true) : Op (M__law_term [.int x,.lst (zs.map sD),.lst (vs.map sD)]) fun r=>∃ w,r = .sh (rt w) /\ Good w /\ (vrB w = true->w ∈ vs):=by
 unfold M__law_term uk
 walk_at "wrun"
 walk_at "wp"
 refine xj (fun h=>?_) fun h=>?_
 ·walk_at "wp"
  refine o_mod (by rw [List.length_map,hv]; decide) ?_
  refine v8 (Int.emod_nonneg _ (by rw [List.length_map,hv]; decide)) (Int.emod_lt_of_pos _ (by rw [List.length_map,hv]; decide)) fun d hd=>?_
  obtain ⟨w,hw,rfl⟩:=List.mem_map.mp hd
  exact ⟨w,by rw [Zi (hr w hw)],vF (hr w hw),fun _=>hw⟩
 ·walk_at "wp"
  obtain ⟨r,e,w,rfl,g,cn⟩:=qK (x:=x / 3) (y:=x) ⟨by have:=hx.1; omega,by have:=hx.1; have:=hx.2; omega⟩ hx hz hn
  exact zt e ⟨w,rfl,g,fun hw=>by rw [zbF cn] at hw; cases hw⟩
def GT (vs : List W) (t : W) : Prop:=Good t /\ (vrB t = true->t ∈ vs)
inductive GL (vs : List W) : List W->Bool->Prop
 | yes {n : W} {ts : List W} : nmB n = true->ts.length <= 4->(∀ t ∈ ts,GT vs t)->GL vs (n::ts) true
 | no {n : W} {ts : List W} : nmB n = true->ts.length <= 4->(∀ t ∈ ts,GT vs t)->GL vs (wNot::n::ts) false
 | cmp {k a b : W} : isU k = true->GT vs a->GT vs b->GL vs [k,a,b] false
theorem Zm {n : W} {ts : List W} (h : nmB n = true) : lD (n::ts) = .tup [sD wYes,sD n,.tup (ts.map rt)]:=by
 rw [vY,VP h,if_neg Bool.false_ne_true,if_neg (VO h (by decide))]
theorem VV {n : W} {ts : List W} : lD (wNot::n::ts) = .tup [sD wNot,sD n,.tup (ts.map rt)]:=by
 rw [vY,if_neg (by decide),if_pos rfl]; rfl
theorem Zn {k a b : W} (h : isU k = true) : lD [k,a,b] = .tup [sD k,rt a,rt b]:=by
 rw [vY,if_pos h]; rfl
theorem zdl {M : List Sl->Option (Rs × En)} {m1 m1' : Mo} {d2 d3 d4 d : D} (h : ∀ a : Addr,∃ y2 y3 y4,Op (M [.pv m1 (some a),.sh d2,.sh d3,.sh d4]) fun q=>q = (.sh d,[some (.pv m1' (some a)),y2,y3,y4])) :
  WR M [.o m1,.v d2,.v d3,.v d4] (.sh d) [some m1',none,none,none]:=by
 intro as hl
 match as,hl with
 | [a,b,c,e],_=>
  obtain ⟨y2,y3,y4,k⟩:=h a
  exact ⟨_,k.eq,a,[b,c,e],m1',[none,none,none],[y2,y3,y4],rfl,rfl,rfl,b,[c,e],[none,none],y2,[y3,y4],rfl,rfl,rfl,c,[e],[none],y3,[y4],rfl,rfl,rfl,e,[],[],y4,[],rfl,rfl,rfl,rfl⟩
structure Nv (zs vs : List W) : Prop where
 zl : zs.length = 5
 zn : ∀ z ∈ zs,nmB z = true
 vl : vs.length = 4
 vv : ∀ z ∈ vs,vrB z = true
abbrev wsD (zs : List W) : D:=.lst (zs.map sD)
theorem jA {zs vs : List W} (K : Nv zs vs) : ∀ (rs : List Int),(∀ r ∈ rs,St r)->∃ ws : List W,ws.length = rs.length /\ (∀ (k : Nat) (r : Int) (w : W),rs[k]? = some r->ws[k]? = some w->M__law_term [.int r,wsD zs,wsD vs] = some (.sh (rt w))) /\ ∀ w ∈ ws,GT vs w
 | [],_=>⟨[],rfl,fun k r w h=>by simp at h,fun w h=>nomatch h⟩
 | r::rs,h=>by
  obtain ⟨ws,h1,h2,h3⟩:=jA K rs fun x hx=>h x (List.mem_cons_of_mem _ hx)
  obtain ⟨q,e,w,rfl,g1,g2⟩:=Zl (h r (by simp)) K.zl K.zn K.vl K.vv
  refine ⟨w::ws,by simp [h1],fun k r' w' e1 e2=>?_,fun v hv=>(List.mem_cons.mp hv).elim (fun e=>e ▸ ⟨g1,g2⟩) (h3 v)⟩
  cases k with
  | zero=>simp at e1 e2; subst e1 e2; exact e
  | succ k=>simp at e1 e2; exact h2 k r' w' e1 e2
def Zo (x many : Int) : W:=if x % 6 = 3 \/ 3 < many then wNot else wYes
theorem zbJ {zs vs : List W} (K : Nv zs vs) {x many : Int} {rest : List Int} (hs : ∀ r ∈ rest,St r) (hr : 4 <= rest.length) (hrl : rest.length <= 100) :
  ∃ (p : List W) (y : Bool) (n : Nat),WR M__law_literal [.o (.lst ((x::rest).map D.int)),.v (wsD zs),.v (wsD vs),.v (.int many)] (.sh (lD p)) [some (.lst ((rest.drop n).map D.int)),none,none,none] /\ GL vs p y /\ (3 < many->y = false) /\ n <= 4:=by
 have hzl:=K.zl
 by_cases h6 : x % 6 > 3
 ·obtain ⟨ts,tl,te,ta⟩:=jA K (rest.take 2) fun r hr=>hs r (List.mem_of_mem_take hr)
  have tl2 : ts.length = 2:=by rw [tl,List.length_take]; omega
  have e1 : rest.drop 0 = rest[0]::rest.drop 1:=List.drop_eq_getElem_cons (by omega)
  have e2 : rest.drop 1 = rest[1]::rest.drop 2:=List.drop_eq_getElem_cons (by omega)
  have er : rest = rest[0]::rest[1]::rest.drop 2:=by rw [<- e2,<- e1]; rfl
  have ea:=te 0 rest[0] ts[0] (by rw [List.getElem?_take,if_pos (by decide),List.getElem?_eq_getElem (by omega)]) (List.getElem?_eq_getElem (by omega))
  have eb:=te 1 rest[1] ts[1] (by rw [List.getElem?_take,if_pos (by decide),List.getElem?_eq_getElem (by omega)]) (List.getElem?_eq_getElem (by omega))
  have ga:=ta _ (List.getElem_mem (by omega : 0 < ts.length))
  have gb:=ta _ (List.getElem_mem (by omega : 1 < ts.length))
  generalize ts[0]'(by omega) = ta0 at ea ga
  generalize ts[1]'(by omega) = tb0 at eb gb
  generalize rest[0]'(by omega) = r0 at er ea
  generalize rest[1]'(by omega) = r1 at er eb
  obtain ⟨k,hk,ek⟩ : ∃ k : W,isU k = true /\ Op (ixA (.lst [.str "under",.str "unlike"]) (.int (x % 2))) fun d=>d = sD k:=by
   by_cases h2 : x % 2 = 0
   ·refine ⟨wUnder,by decide,?_⟩
    rw [h2]
    exact yI (k:=0) rfl (by rw [Z7]; rfl)
   ·refine ⟨wUnlike,by decide,?_⟩
    rw [show x % 2 = 1 by omega]
    exact yI (k:=1) rfl (by rw [jv]; rfl)
  refine ⟨[k,ta0,tb0],false,2,?_,.cmp hk ga gb,fun _=>rfl,by decide⟩
  rw [Zn hk]
  refine zdl fun a=>⟨some (.sh (wsD zs)),some (.sh (wsD vs)),some (.sh (.int many)),?_⟩
  rw [er]
  unfold M__law_literal xb
  walk_at "wrunM"
  walk_at "wp"
  rw [decide_eq_true (by omega : 3 < x % 6)]
  walk_at "wp"
  refine zt ea ⟨_,rfl,jz,?_⟩
  walk_at "wp"
  refine ⟨zE (show 2 <= 10000 by decide),?_⟩
  walk_at "wp"
  obtain ⟨d,ed,rfl⟩:=ek
  refine zt ed ?_
  walk_at "wp"
  refine zt eb ⟨_,rfl,jz,?_⟩
  walk_at "wp"
  refine ⟨zE (show 3 <= 10000 by decide),?_⟩
  rfl
 ·obtain ⟨w,ew,hw6⟩ : ∃ k : Nat,x / 6 % 5 = (k : Int) /\ k <= 4:=⟨(x / 6 % 5).toNat,by omega,by omega⟩
  obtain ⟨ts,tl,te,ta⟩:=jA K (rest.take w) fun r hr=>hs r (List.mem_of_mem_take hr)
  have tlw : ts.length = w:=by rw [tl,List.length_take]; omega
  obtain ⟨at_,hat,hat5⟩ : ∃ k : Nat,x / 30 % 5 = (k : Int) /\ k < 5:=⟨(x / 30 % 5).toNat,by omega,by omega⟩
  have en : (zs.map sD)[at_]? = some (sD (zs[at_]'(by omega))):=by rw [List.getElem?_map,List.getElem?_eq_getElem (by omega)]; rfl
  have hn:=K.zn _ (List.getElem_mem (by omega : at_ < zs.length))
  generalize zs[at_]'(by omega) = nm at en hn
  have run : WR M__law_literal [.o (.lst ((x::rest).map D.int)),.v (wsD zs),.v (wsD vs),.v (.int many)] (.sh (.tup [sD (Zo x many),sD nm,.tup (ts.map rt)])) [some (.lst ((rest.drop w).map D.int)),none,none,none]:=by
   refine zdl fun a=>⟨some (.sh (wsD zs)),some (.sh (wsD vs)),some (.sh (.int many)),?_⟩
   unfold M__law_literal xb
   walk_at "wrunM"
   walk_at "wp"
   rw [decide_eq_false (by omega : ¬ 3 < x % 6)]
   walk_at "wpn"
   refine qm (fun δ=>δ = [some (.pv (.lst (rest.map D.int)) (some a)),some (.sh (wsD zs)),some (.sh (wsD vs)),some (.sh (.int many)),some (.sh (.int x)),none,some (.sh (sD (Zo x many))),none]) ?_ ?_
   ·walk_at "wp"
    refine xj (fun h=>?_) fun h=>?_
    ·walk_at "wp"
     rw [show Zo x many = wNot from if_pos (Or.inl h),ju]; rfl
    ·walk_at "wp"
     refine xj (fun h2=>?_) fun h2=>?_
     ·walk_at "wp"
      rw [show Zo x many = wNot from if_pos (Or.inr h2),ju]; rfl
     ·walk_at "wp"
      rw [show Zo x many = wYes from if_neg (by omega),uH]; rfl
   ·rintro δ rfl
    walk_at "wp"
    rw [ew]
    refine ⟨by omega,?_⟩
    rw [Int.toNat_natCast]
    refine ⟨by rw [jr,List.length_map,List.length_range]; exact zE (by omega),?_⟩
    refine YK (fun k ys δ=>ys = (ts.take k).map rt /\ δ = [some (.pv (.lst ((rest.drop k).map D.int)) (some a)),some (.sh (wsD zs)),some (.sh (wsD vs)),some (.sh (.int many)),some (.sh (.int x)),none,some (.sh (sD (Zo x many))),none]) 0 [] ⟨rfl,rfl⟩ ?_ ?_
    ·rintro k y ys δ hk ⟨rfl,rfl⟩
     rw [Nat.zero_add]
     obtain ⟨hkw,rfl⟩:=qF hk
     have hkr : k < rest.length:=by omega
     have hkt : k < ts.length:=by omega
     have e1 : rest.drop k = rest[k]::rest.drop (k + 1):=List.drop_eq_getElem_cons hkr
     have e2 : ts.take (k + 1) = ts.take k++[ts[k]]:=by rw [List.take_succ,List.getElem?_eq_getElem hkt]; rfl
     have e3:=te k rest[k] ts[k] (by rw [List.getElem?_take,if_pos hkw,List.getElem?_eq_getElem hkr]) (List.getElem?_eq_getElem hkt)
     rw [e1,List.map_cons]
     walk_at "wp"
     refine zt e3 ⟨_,rfl,jz,rfl,?_,?_⟩
     ·rw [e2,List.map_append]; rfl
     ·rfl
    ·rintro ys δ' ⟨hz,rfl⟩
     rw [Nat.zero_add,vZ,<- tlw,List.take_length,List.nil_append] at hz
     subst hz
     rw [Nat.zero_add,vZ]
     walk_at "wp"
     refine o_mod (by rw [List.length_map,hzl]; decide) ?_
     rw [List.length_map,hzl,show x / 30 % ((5 : Nat) : Int) = (at_ : Int) from hat]
     refine yI en ?_
     walk_at "wp"
     refine ⟨zE (show 3 <= 10000 by decide),?_⟩
     rfl
  by_cases hk : x % 6 = 3 \/ 3 < many
  ·refine ⟨wNot::nm::ts,false,w,?_,.no hn (by omega) ta,fun _=>rfl,hw6⟩
   rw [VV]
   have e : Zo x many = wNot:=if_pos hk
   rw [<- e]; exact run
  ·refine ⟨nm::ts,true,w,?_,.yes hn (by omega) ta,fun h=>absurd (Or.inr h) hk,hw6⟩
   rw [Zm hn]
   have e : Zo x many = wYes:=if_neg hk
   rw [<- e]; exact run
inductive GG (vs : List W) : List W->Prop
 | nil : GG vs []
 | cnt : GG vs [wCount]
 | sum {v : W} : vrB v = true->v ∈ vs->GG vs [wSum,v]
 | lst {v : W} : vrB v = true->v ∈ vs->GG vs [wLeast,v]
def gD (g : List W) : List D:=if g = [] then [] else [.tup (g.map sD)]
structure GR (vs : List W) (n : W) (ts g : List W) (bd : List (List W)) : Prop where
 nm : nmB n = true
 gt : ∀ t ∈ ts,GT vs t
 gl : ts.length + (gD g).length <= 4
 gg : GG vs g
 b1 : 1 <= bd.length
 b6 : bd.length <= 6
 bl : ∀ p ∈ bd,∃ y,GL vs p y
 by4 : (bd.filter isY).length <= 4
def rlD (n : W) (ts g : List W) (bd : List (List W)) : D:=.tup [sD n,.tup (ts.map rt++gD g),.tup (bd.map lD)]
theorem GL.isY {vs : List W} {p : List W} {y : Bool} (h : GL vs p y) : isY p = y:=by
 cases h with
 | yes hn _ _=>
  show (!isU _ && !decide (_ = wNot)) = true
  rw [VP hn,decide_eq_false (VO hn (by decide))]; rfl
 | no hn _ _=>rfl
 | cmp hk _ _=>
  show (!isU _ && !decide (_ = wNot)) = false
  rw [hk]; rfl
theorem zbK {o : D->D->Option D} {f g : FX} {δ : En} {R : D × En->Prop} (k : Op (f δ) fun r=>Op (g r.2) fun r'=>Op (o r.1 r'.1) fun d=>R (d,r'.2)) : Op (xOp o f g δ) R:=by
 obtain ⟨x,e1,y,e2,z,e3,k⟩:=k
 exact ⟨_,by unfold xOp; rw [e1,Option.bind_some,e2,Option.bind_some,e3]; rfl,k⟩
theorem GL.ne {vs : List W} {p : List W} {y : Bool} (h : GL vs p y) : p ≠ []:=by cases h <;> simp
theorem zc0 {bd : List (List W)} {δ : En} {R : D->Prop} (hb : ∀ p ∈ bd,p ≠ []) (hl : bd.length <= 100) (e5 : δ[5]? = some (some (.sh (.tup (bd.map lD))))) (k : R (.int (bd.filter isY).length)) :
  Op (zH lenD (zi (zM (yD 1 [] 0 (v3 (zU 5)) (fB (f2 (eqO false) (f2 ixA (zj 0) (fC (.int 0))) (fC (.str "yes")))) (zU 0))) fNil) δ) R:=by
 refine op_callB (op_cons (op_pub (op_comp (op_oSeq (op_var e5 (isSq_t ⟨zE (by rw [List.length_map]; omega),uQ (k:=lD) (p:=isY) (hh:=lD) (fun p hp=>?_) (fun p hp _=>?_) ?_⟩))))))
 ·obtain ⟨k,xs,e,hk⟩:=zdk (hb p hp)
  rw [e]
  walk_at "wp"
  refine zP (k:=0) rfl ?_
  walk_at "wp"
  rw [uH]
  refine eqS ?_
  walk_at "wp"
  exact hk
 ·walk_at "wp"
  rfl
 ·walk_at "wp"
  rw [List.length_map]
  exact k
theorem VW (c : Int) {zs vs : List W} (K : Nv zs vs) : Op (M__law_rule [.int c,wsD zs,wsD vs]) fun r=>∃ (n : W) (ts g : List W) (bd : List (List W)),r = .sh (rlD n ts g bd) /\ GR vs n ts g bd:=by
 have hzl:=K.zl
 have hvl:=K.vl
 unfold M__law_rule ul
 walk_at "wrun"
 walk_at "wp"
 obtain ⟨r,er,xs,rfl,hx,hs⟩:=Zk c 38 (by decide)
 refine zt er ?_
 walk_at "wp"
 refine ⟨Nat.zero_le _,?_⟩
 walk_at "wp"
 refine yI (k:=0) (x:=.int (xs[0]'(by omega))) (by rw [List.getElem?_map,List.getElem?_eq_getElem (by omega)]; rfl) ?_
 walk_at "wp"
 refine ⟨by omega,?_⟩
 rw [show L2.cutD (xs.map D.int) (some 8) none = (xs.drop 8).map D.int by rw [show (8 : Int) = ((8 : Nat) : Int) from rfl,zbI,List.map_drop]]
 have h6 : (1 + xs[0]'(by omega) % 6).toNat <= 6 /\ 1 <= (1 + xs[0]'(by omega) % 6).toNat:=by omega
 generalize (1 + xs[0]'(by omega) % 6).toNat = m at h6
 refine xH (fun k δ=>∃ (bd : List (List W)) (rest : List Int) (x y : Option Sl),δ = [some (.sh (.int c)),some (.sh (wsD zs)),some (.sh (wsD vs)),some (.sh (.lst (xs.map D.int))),some (.pv (.lst (rest.map D.int)) none),some (.sh (.tup (bd.map lD))),x,y,none,none] /\ bd.length = k /\ (∀ p ∈ bd,∃ y,GL vs p y) /\ (bd.filter isY).length <= 4 /\ (∀ r ∈ rest,St r) /\ 30 <= rest.length + 5 * k /\ rest.length <= 100) ⟨[],xs.drop 8,_,_,rfl,rfl,(fun p h=>nomatch h),by simp,fun r hr=>hs r (List.mem_of_mem_drop hr),by simp; omega,by simp; omega⟩ ?_ ?_
 ·rintro k x hk δ ⟨bd,rest,x,y,rfl,hb1,hb2,hb3,hr1,hr2,hr3⟩
  obtain ⟨hkm,rfl⟩:=qF hk
  dsimp only [List.set]
  refine so_seq (so_set (zc0 (fun p hp=>(hb2 p hp).elim fun _ h=>h.ne) (by omega) rfl ?_))
  walk_at "wpn"
  cases rest with
  | nil=>simp at hr2; omega
  | cons r0 rest=>
   simp only [List.length_cons] at hr2 hr3
   obtain ⟨p,yb,n,hm,gl,hy,hn⟩:=zbJ K (x:=r0) (many:=((bd.filter isY).length : Int)) (rest:=rest) (fun r hr=>hr1 r (List.mem_cons_of_mem _ hr)) (by omega) (by omega)
   refine zbK ?_
   walk_at "wpn"
   refine zt (d:=[Ag.o (.lst ((r0::rest).map D.int)),.v (wsD zs),.v (wsD vs),.v (.int ((bd.filter isY).length : Int))]) rfl ⟨_,_,hm,?_⟩
   walk_at "wpn"
   refine ⟨zE (show 1 <= 10000 by decide),?_⟩
   refine yr (by rw [List.length_map]; simp; omega) ?_
   refine setK (δ':=[some (.sh (.int c)),some (.sh (wsD zs)),some (.sh (wsD vs)),some (.sh (.lst (xs.map D.int))),some (.pv (.lst ((rest.drop n).map D.int)) none),some (.sh (.tup (bd.map lD++[lD p]))),some (.sh (.int k)),some (.sh (.int ((bd.filter isY).length : Int))),none,none]) rfl ?_
   walk_at "wpn"
   refine ⟨bd++[p],rest.drop n,_,_,by rw [List.map_append]; rfl,by simp [hb1],fun q hq=>(List.mem_append.mp hq).elim (hb2 q) fun e=>by rw [List.mem_singleton] at e; exact e ▸ ⟨yb,gl⟩,?_,fun r hr=>hr1 r (List.mem_cons_of_mem _ (List.mem_of_mem_drop hr)),by rw [List.length_drop]; omega,by rw [List.length_drop]; omega⟩
   rw [List.filter_append,List.length_append]
   have hyy:=gl.isY
   by_cases h3 : 3 < (bd.filter isY).length
   ·rw [hy (by omega)] at hyy
    simp [hyy]; omega
   ·have : ([p].filter isY).length <= 1:=List.length_filter_le isY [p]
    omega
 ·rintro δ ⟨bd,rest,x,y,rfl,hb1,hb2,hb3,hr1,hr2,hr3⟩
  rw [vZ] at hb1
  walk_at "wpn"
  refine yI (k:=1) (x:=.int (xs[1]'(by omega))) (by rw [List.getElem?_map,List.getElem?_eq_getElem (by omega)]; rfl) ?_
  walk_at "wpn"
  obtain ⟨j,hj,hj4⟩ : ∃ j : Nat,xs[1]'(by omega) % 5 = (j : Int) /\ j <= 4:=⟨(xs[1]'(by omega) % 5).toNat,by omega,by omega⟩
  rw [hj]
  rw [show L2.cutD (xs.map D.int) (some 4) (some (4 + (j : Int))) = (((xs.drop 4).take j).map D.int) by
   rw [show (4 + (j : Int)) = ((4 + j : Nat) : Int) by omega,show (4 : Int) = ((4 : Nat) : Int) from rfl,JL,show 4 + j - 4 = j by omega,List.map_take,List.map_drop]]
  refine ⟨zE (by rw [List.length_map,List.length_take]; omega),jd (Q:=fun y=>∃ w,y = rt w /\ GT vs w) (fun d hd=>?_) fun ys hy hq=>?_⟩
  ·obtain ⟨z,hz,rfl⟩:=List.mem_map.mp hd
   walk_at "wp"
   obtain ⟨q,e,w,rfl,g1,g2⟩:=Zl (hs z (List.mem_of_mem_drop (List.mem_of_mem_take hz))) K.zl K.zn K.vl K.vv
   exact zt e ⟨w,rfl,g1,g2⟩
  ·obtain ⟨ws,rfl,hw⟩:=Ye hq
   rw [List.length_map,List.length_map,List.length_take,List.length_drop] at hy
   have hwl : ws.length <= 4:=by omega
   walk_at "wpn"
   have hi2 : xs[2]'(by omega) ∈ xs:=List.getElem_mem _
   have e2 : (xs.map D.int)[2]? = some (.int (xs[2]'(by omega))):=by rw [List.getElem?_map,List.getElem?_eq_getElem (by omega)]; rfl
   have e3 : (xs.map D.int)[3]? = some (.int (xs[3]'(by omega))):=by rw [List.getElem?_map,List.getElem?_eq_getElem (by omega)]; rfl
   generalize xs[2]'(by omega) = x2 at e2 hi2
   generalize xs[3]'(by omega) = x3 at e3
   refine qm (fun δ=>∃ (ts g : List W) (z : Option Sl),δ = [some (.sh (.int c)),some (.sh (wsD zs)),some (.sh (wsD vs)),some (.sh (.lst (xs.map D.int))),some (.pv (.lst (rest.map D.int)) none),some (.sh (.tup (bd.map lD))),x,y,some (.sh (.tup (ts.map rt++gD g))),z] /\ (∀ t ∈ ts,GT vs t) /\ ts.length + (gD g).length <= 4 /\ GG vs g) ?_ ?_
   ·refine so_if ?_
    walk_at "wp"
    refine yI (k:=2) e2 ?_
    walk_at "wp"
    refine Js ?_
    walk_at "wp"
    refine xj (fun h=>?_) fun h=>?_
    ·obtain ⟨v,hv,ev⟩ : ∃ v : W,v ∈ vs /\ ∀ {R : D->Prop},R (sD v)->Op (ixA (wsD vs) (.int (x3 % 4))) R:=by
      obtain ⟨q,hq,hq4⟩ : ∃ q : Nat,x3 % 4 = (q : Int) /\ q < 4:=⟨(x3 % 4).toNat,by omega,by omega⟩
      refine ⟨vs[q]'(by omega),List.getElem_mem _,fun k=>?_⟩
      rw [hq]
      exact yI (by rw [List.getElem?_map,List.getElem?_eq_getElem (by omega)]; rfl) k
     have hvr:=K.vv v hv
     walk_at "wp"
     refine yI (k:=3) e3 ?_
     walk_at "wp"
     refine ev ?_
     walk_at "wp"
     refine ⟨zE (show 2 <= 10000 by decide),?_⟩
     walk_at "wp"
     refine yI (k:=3) e3 ?_
     walk_at "wp"
     refine ev ?_
     walk_at "wp"
     refine ⟨zE (show 2 <= 10000 by decide),?_⟩
     walk_at "wp"
     refine ⟨zE (show 1 <= 10000 by decide),?_⟩
     walk_at "wp"
     refine ⟨zE (show 3 <= 10000 by decide),?_⟩
     walk_at "wp"
     refine yI (k:=2) e2 ?_
     walk_at "wp"
     obtain ⟨g,hg1,hg2,hg3⟩ : ∃ g : List W,GG vs g /\ g ≠ [] /\ ∀ {R : D->Prop},R (.tup (g.map sD))->Op (ixA (.lst [.tup [.str "sum",sD v],.tup [.str "least",sD v],.tup [.str "count"]]) (.int (x2 % 6))) R:=by
      by_cases h0 : x2 % 6 = 0
      ·refine ⟨[wSum,v],.sum hvr hv,by simp,fun k=>?_⟩
       rw [h0]
       exact yI (k:=0) rfl (by rw [JC]; exact k)
      ·by_cases h1 : x2 % 6 = 1
       ·refine ⟨[wLeast,v],.lst hvr hv,by simp,fun k=>?_⟩
        rw [h1]
        exact yI (k:=1) rfl (by rw [Z8]; exact k)
       ·refine ⟨[wCount],.cnt,by simp,fun k=>?_⟩
        rw [show x2 % 6 = 2 by omega]
        exact yI (k:=2) rfl (by rw [tV]; exact k)
     refine hg3 ?_
     walk_at "wp"
     refine ⟨zE (show 1 <= 10000 by decide),?_⟩
     rw [show L2.cutD (ws.map rt) none (some 3) = (ws.take 3).map rt by rw [show (3 : Int) = ((3 : Nat) : Int) from rfl,Qg,List.map_take]]
     refine yr (by rw [List.length_map,List.length_take]; simp; omega) ?_
     walk_at "wp"
     refine ⟨ws.take 3,g,_,by rw [show gD g = [.tup (g.map sD)] from if_neg hg2],fun t ht=>hw t (List.mem_of_mem_take ht),by rw [show gD g = [.tup (g.map sD)] from if_neg hg2,List.length_take]; simp; omega,hg1⟩
    ·walk_at "wp"
     exact ⟨ws,[],_,by rw [show gD [] = [] from if_pos rfl,List.append_nil],hw,by rw [show gD [] = [] from if_pos rfl]; simpa using hwl,.nil⟩
   ·rintro δ ⟨ts,g,z,rfl,ht,hg,gg⟩
    walk_at "wp"
    refine yI (k:=2) e2 ?_
    walk_at "wp"
    refine o_mod (by rw [List.length_map,hzl]; decide) ?_
    refine v8 (Int.emod_nonneg _ (by rw [List.length_map,hzl]; decide)) (Int.emod_lt_of_pos _ (by rw [List.length_map,hzl]; decide)) fun d hd=>?_
    obtain ⟨w,hw0,rfl⟩:=List.mem_map.mp hd
    walk_at "wp"
    exact ⟨zE (show 3 <= 10000 by decide),w,ts,g,bd,rfl,K.zn w hw0,ht,hg,gg,by omega,by omega,hb2,hb3⟩
def jG (s : W) : List W->W
 | []=>[]
 | [w]=>w
 | w::x::r=>w++(s++jG s (x::r))
theorem Yg (s : W) : ∀ (l : List W) (w : W),jG s (w::l) = w++l.flatMap (s++·)
 | [],w=>by simp [jG]
 | x::l,w=>by rw [jG,Yg s l x]; simp
theorem zb9 : ∀ ws : List W,jB ws = jG [32] ws
 | []=>rfl
 | [w]=>rfl
 | w::x::r=>by rw [jB,jG,zb9 (x::r)]; rfl
theorem VX (l : List W) (w : W) : jB (w::l) = w++l.flatMap (32::·):=by rw [zb9,Yg]; rfl
theorem Yh : ∀ l : List W,xF (l.map sD) = some (l.map S)
 | []=>rfl
 | x::l=>by rw [List.map_cons]; show (xF (l.map sD)).map (S x::·) = _; rw [Yh l]; rfl
theorem Y2 {b : Nat} : ∀ l : List W,(∀ w ∈ l,w.length <= b)->((l.map S).map fun y=>y.length).sum <= b * l.length
 | [],_=>by simp
 | x::l,hl=>by
  have h1:=hl x (by simp)
  have h2:=Y2 (b:=b) l fun w hw=>hl w (List.mem_cons_of_mem _ hw)
  simp only [List.map_cons,List.sum_cons,List.length_cons]
  rw [yP,Nat.mul_succ]
  omega
theorem VY {s : W} {ws : List W} (hn : ws ≠ []) : Txt.join (S s) (ws.map S) = S (jG s ws):=by
 have g : ∀ (l : List W) (a : W),(l.map S).foldl (fun acc p=>acc++(S s).cps++p.cps) a.toArray = (a++l.flatMap (s++·)).toArray:=by
  intro l
  induction l with
  | nil=>intro a; simp
  | cons x l ih=>
   intro a
   rw [List.map_cons,List.foldl_cons]
   have : a.toArray++(S s).cps++(S x).cps = (a++(s++x)).toArray:=by simp
   rw [this,ih]
   simp
 show Builtin.Str.glued (S s) (ws.map S) = _
 cases ws with
 | nil=>exact absurd rfl hn
 | cons w l=>
  unfold Builtin.Str.glued
  rw [Yg]
  show (⟨((S w::l.map S).drop 1).foldl _ (S w).cps⟩ : Str) = _
  rw [List.drop_succ_cons,List.drop_zero]
  exact congrArg Str.mk (g l w)
theorem VZ {s : W} {ws : List W} (hs : s.length <= 10) (h : ∀ w ∈ ws,w.length <= 10000) (hl : ws.length <= 60) : ((ws.map S).map fun y=>y.length).sum + (ws.map S).length * (S s).length <= 16777216:=by
 have h1:=Y2 ws h
 rw [List.length_map,yP]
 have h2 : ws.length * s.length <= 60 * 10:=Nat.mul_le_mul hl hs
 omega
theorem V0 {s : W} {z : Str} {ws : List W} {R : D->Prop} (hz : z = S s) (hn : ws ≠ []) (hs : s.length <= 10) (h : ∀ w ∈ ws,w.length <= 10000) (hl : ws.length <= 60) (k : R (.str (S (jG s ws)))) : Op (uB (.str z) (.lst (ws.map sD))) R:=by
 subst hz
 refine zt ?_ k
 show (xF (ws.map sD)).bind _ = _
 rw [Yh,Option.bind_some,if_pos (VZ hs h hl),VY hn]
theorem JM {s : W} {z : Str} {ws : List W} {R : D->Prop} (hz : z = S s) (hn : ws ≠ []) (hs : s.length <= 10) (h : ∀ w ∈ ws,w.length <= 10000) (hl : ws.length <= 60) (k : R (.str (S (jG s ws)))) : Op (UZ (.str z) (.tup (ws.map sD))) R:=by
 subst hz
 refine zt ?_ k
 show (xF (ws.map sD)).bind _ = _
 rw [Yh,Option.bind_some,if_pos (VZ hs h hl),VY hn]
theorem JN {us : List (D × W)} (hu : ∀ u ∈ us,strT [u.1] = some (.str (S u.2))) (tx : Tx (us.map (·.2))) : M_words_text [.tup (us.map (·.1))] = some (.sh (sD (jB (us.map (·.2))))):=by
 have hl : us.length <= 60:=by have:=tx.le; rwa [List.length_map] at this
 apply Op.eq
 unfold M_words_text vn
 walk_at "wrun"
 walk_at "wp"
 refine ⟨zE (by rw [List.length_map]; omega),yz (α:=D × W) (k:=fun u=>u.1) (hh:=fun u=>sD u.2) (fun u hm=>?_) ?_⟩
 ·walk_at "wp"
  exact zt (hu u hm) rfl
 ·walk_at "wp"
  rw [show us.map (fun u=>sD u.2) = (us.map (·.2)).map sD by rw [List.map_map]; rfl]
  refine V0 wz tx.ne (by decide) (fun w hw=>by have:=tx.lb w hw; omega) tx.le ?_
  rw [<- zb9]; rfl
structure It (u : D × List W) : Prop where
 ob : TJ u.1 = false
 is : (∃ w,u.2 = [w] /\ strT [u.1] = some (.str (S w)) /\ TK "tuple" u.1 = false) \/ (u.1 = .tup (u.2.map sD) /\ u.2 ≠ [])
theorem jC : ∀ {ws : List W},(∀ w ∈ ws,w.length <= 40)->(ws.flatMap (32::·)).length <= 41 * ws.length
 | [],_=>by simp
 | w::ws,h=>by
  have h1:=h w (by simp)
  have h2:=jC (ws:=ws) fun v hv=>h v (List.mem_cons_of_mem _ hv)
  simp only [List.flatMap_cons,List.length_append,List.length_cons]
  omega
theorem Y3 {us : List (D × List W)} (hu : ∀ u ∈ us,It u) (hl : us.length <= 60) (tx : Tx (us.flatMap (·.2))) : M__law_words [.tup (us.map (·.1))] = some (.sh (sD (jB (us.flatMap (·.2))))):=by
 apply Op.eq
 unfold M__law_words vw
 walk_at "wrun"
 walk_at "wp"
 have sub : ∀ k,((us.take k).flatMap (·.2)).length <= (us.flatMap (·.2)).length /\ ∀ w ∈ (us.take k).flatMap (·.2),w ∈ us.flatMap (·.2):=fun k=>by
  have e : us.flatMap (·.2) = (us.take k).flatMap (·.2)++(us.drop k).flatMap (·.2):=by rw [<- List.flatMap_append,List.take_append_drop]
  constructor
  ·rw [e,List.length_append]; omega
  ·intro w hw; rw [e]; exact List.mem_append.mpr (.inl hw)
 refine xH (fun k δ=>∃ x : Option Sl,δ = [some (.sh (.tup (us.map (·.1)))),some (.sh (sD (((us.take k).flatMap (·.2)).flatMap (32::·)))),x]) ⟨_,by rw [VH]; rfl⟩ ?_ ?_
 ·rintro k x hk δ ⟨y,rfl⟩
  rw [List.getElem?_map] at hk
  obtain ⟨u,eu,rfl⟩:=omE hk
  have hm : u ∈ us:=List.mem_of_getElem? eu
  obtain ⟨ob,is⟩:=hu u hm
  have etk : us.take (k + 1) = us.take k++[u]:=by rw [List.take_succ,eu]; rfl
  have s1:=sub (k + 1)
  have l1:=jC fun w hw=>tx.lb w (s1.2 w hw)
  have l0:=tx.le
  have hlen : (((us.take (k + 1)).flatMap (·.2)).flatMap (32::·)).length <= 2460:=by omega
  rw [etk] at hlen ⊢
  simp only [List.flatMap_append,List.flatMap_cons,List.flatMap_nil,List.append_nil,List.length_append] at hlen ⊢
  dsimp only [List.set]
  walk_at "wp"
  refine ⟨ob,?_⟩
  rcases is with ⟨w,ew,st,ty⟩ | ⟨eu1,hne⟩
  ·rw [ty]
   rw [ew] at hlen ⊢
   simp only [List.flatMap_cons,List.flatMap_nil,List.append_nil,List.length_cons] at hlen ⊢
   walk_at "wp"
   rw [wz]
   refine jw (by simp only [List.length_append,List.length_cons,List.length_nil]; omega) ?_
   walk_at "wp"
   refine zt st ?_
   refine jw (by simp only [List.length_append,List.length_cons,List.length_nil]; omega) ?_
   walk_at "wp"
   exact ⟨_,by rw [List.append_assoc]; rfl⟩
  ·rw [eu1,show TK "tuple" (.tup (u.2.map sD)) = true from rfl]
   walk_at "wp"
   have hb : ∀ w ∈ u.2,w.length <= 40:=fun w hw=>tx.lb w (List.mem_flatMap.mpr ⟨u,hm,hw⟩)
   have hlu : u.2.length <= 60:=by
    have:=s1.1
    rw [etk,List.flatMap_append,List.length_append,List.flatMap_cons,List.flatMap_nil,List.append_nil] at this
    have:=tx.le
    omega
   have ej : 32::jG [32] u.2 = u.2.flatMap (32::·):=by
    rw [<- zb9]
    cases e : u.2 with
    | nil=>exact absurd e hne
    | cons w l=>rw [VX]; rfl
   have hjl : (jG [32] u.2).length + 1 = (u.2.flatMap (32::·)).length:=by rw [<- ej]; rfl
   rw [wz]
   refine jw (by simp only [List.length_append,List.length_cons,List.length_nil]; omega) ?_
   walk_at "wp"
   refine JM rfl hne (by decide) (fun w hw=>by have:=hb w hw; omega) hlu ?_
   refine jw (by simp only [List.length_append,List.length_cons,List.length_nil]; omega) ?_
   walk_at "wp"
   exact ⟨_,by rw [<- ej,List.append_assoc]; rfl⟩
 ·rintro δ ⟨x,rfl⟩
  walk_at "wp"
  rw [List.length_map,List.take_length]
  have lf:=jC tx.lb
  have l0:=tx.le
  refine T8 ?_
  walk_at "wp"
  cases e : us.flatMap (·.2) with
  | nil=>exact absurd e tx.ne
  | cons w l=>
   refine ⟨_,rfl,?_,?_⟩
   ·rw [yP]; rw [e] at lf l0; exact zE (by omega)
   ·rw [VX]
    show Rs.sh (.str (Txt.slice (S (32::w++l.flatMap (32::·))) (some ((1 : Nat) : Int)) none)) = _
    rw [qH (by simp)]
    rfl
def Sw (w : W) : Prop:=strT [rt w] = some (.str (S w))
theorem zbL : ∀ k ∈ kws,qI k = false:=by decide
theorem Yi {k : W} (h : k ∈ kws) : rt k = sD k:=by unfold rt; rw [zbL k h]; rfl
theorem zc1 {k : W} (h : k ∈ kws) : Sw k:=by unfold Sw; rw [Yi h]; rfl
theorem zbM {w : W} : TJ (rt w) = false:=by unfold rt; split <;> rfl
theorem zbN {w : W} : TK "tuple" (rt w) = false:=by unfold rt; split <;> rfl
theorem zc2 {ws : List W} (h : ∀ w ∈ ws,Sw w) (tx : Tx ws) : M_words_text [.tup (ws.map rt)] = some (.sh (sD (jB ws))):=by
 have e1 : (ws.map fun w=>((rt w,w) : D × W)).map (·.1) = ws.map rt:=by rw [List.map_map]; rfl
 have e2 : (ws.map fun w=>((rt w,w) : D × W)).map (·.2) = ws:=by rw [List.map_map]; exact List.map_id ws
 have:=JN (us:=ws.map fun w=>((rt w,w) : D × W)) (fun u hu=>by obtain ⟨w,hw,rfl⟩:=List.mem_map.mp hu; exact h w hw) (by rw [e2]; exact tx)
 rwa [e1,e2] at this
theorem zbO {ws g : List W} (h : ∀ w ∈ ws,Sw w) (tx : Tx (ws++g)) : M__law_words [.tup (ws.map rt++gD g)] = some (.sh (sD (jB (ws++g)))):=by
 have hit : ∀ w ∈ ws,It ((rt w,[w]) : D × List W):=fun w hw=>⟨zbM,.inl ⟨w,rfl,h w hw,zbN⟩⟩
 have f1 : ∀ l : List W,(l.map fun w=>((rt w,[w]) : D × List W)).flatMap (·.2) = l:=by
  intro l
  induction l with
  | nil=>rfl
  | cons x l ih=>rw [List.map_cons,List.flatMap_cons,ih]; rfl
 have hl : ws.length <= 59 \/ g = []:=by
  by_cases e : g = []
  ·exact .inr e
  ·left
   have:=tx.le
   have : 1 <= g.length:=by cases g with | nil=>exact absurd rfl e | cons _ _=>simp
   have h3:=tx.le
   rw [List.length_append] at h3
   omega
 by_cases hg : g = []
 ·subst hg
  rw [List.append_nil] at tx ⊢
  rw [show gD [] = [] from if_pos rfl,List.append_nil]
  have e1 : (ws.map fun w=>((rt w,[w]) : D × List W)).map (·.1) = ws.map rt:=by rw [List.map_map]; rfl
  have:=Y3 (us:=ws.map fun w=>((rt w,[w]) : D × List W)) (fun u hu=>by obtain ⟨w,hw,rfl⟩:=List.mem_map.mp hu; exact hit w hw) (by rw [List.length_map]; exact tx.le) (by rw [f1]; exact tx)
  rwa [e1,f1] at this
 ·rw [show gD g = [.tup (g.map sD)] from if_neg hg]
  have e1 : ((ws.map fun w=>((rt w,[w]) : D × List W))++[((D.tup (g.map sD),g) : D × List W)]).map (·.1) = ws.map rt++[.tup (g.map sD)]:=by rw [List.map_append,List.map_map]; rfl
  have e2 : ((ws.map fun w=>((rt w,[w]) : D × List W))++[((D.tup (g.map sD),g) : D × List W)]).flatMap (·.2) = ws++g:=by rw [List.flatMap_append,f1]; simp
  have:=Y3 (us:=(ws.map fun w=>((rt w,[w]) : D × List W))++[((D.tup (g.map sD),g) : D × List W)]) (fun u hu=>by
   rcases List.mem_append.mp hu with hu | hu
   ·obtain ⟨w,hw,rfl⟩:=List.mem_map.mp hu; exact hit w hw
   ·rw [List.mem_singleton] at hu; subst hu; exact ⟨rfl,.inr ⟨rfl,hg⟩⟩) (by rw [List.length_append,List.length_map]; have:=hl.resolve_right hg; simp; omega) (by rw [e2]; exact tx)
  rwa [e1,e2] at this
theorem zc3 {k : W} (h : isU k = true) : k ∈ kws:=by
 unfold isU at h
 rw [Bool.or_eq_true,decide_eq_true_iff,decide_eq_true_iff] at h
 rcases h with rfl | rfl <;> decide
theorem zc4 : ∀ k ∈ kws,32 ∉ k:=by decide
theorem zbP : ∀ k ∈ kws,k.length <= 6:=by decide
theorem JO : ∀ k ∈ kws,k.getLast? ≠ some 44:=by decide
structure Ok (w : W) : Prop where
 sw : Sw w
 nb : 32 ∉ w
 le : w.length <= 31
 la : w.getLast? ≠ some 44
theorem V1 {k : W} (h : k ∈ kws) : Ok k:=⟨zc1 h,zc4 k h,by have:=zbP k h; omega,JO k h⟩
theorem Good.ok {w : W} (h : Good w) : Ok w:=⟨h.st,h.nb,h.le,h.last⟩
theorem jD {w : W} (h : nmB w = true) : Ok w:=(Zj h).ok
theorem V2 {ws : List W} (hn : ws ≠ []) (h : ∀ w ∈ ws,Ok w) (hl : ws.length <= 60) : Tx ws:=⟨hn,fun w hw=>(h w hw).nb,fun w hw=>by have:=(h w hw).le; omega,hl⟩
theorem GL.ok {vs p : List W} {y : Bool} (h : GL vs p y) : ∀ w ∈ p,Ok w:=by
 cases h with
 | yes hn _ ht=>exact fun w hw=>(List.mem_cons.mp hw).elim (fun e=>e ▸ jD hn) fun hw=>(ht w hw).1.ok
 | no hn _ ht=>
  intro w hw
  rcases List.mem_cons.mp hw with rfl | hw
  ·exact V1 (by decide)
  ·exact (List.mem_cons.mp hw).elim (fun e=>e ▸ jD hn) fun hw=>(ht w hw).1.ok
 | cmp hk ha hb=>
  intro w hw
  rcases List.mem_cons.mp hw with rfl | hw
  ·exact V1 (zc3 hk)
  ·rcases List.mem_cons.mp hw with rfl | hw
   ·exact ha.1.ok
   ·rw [List.mem_singleton] at hw; subst hw; exact hb.1.ok
theorem GL.len {vs p : List W} {y : Bool} (h : GL vs p y) : p.length <= 6:=by
 cases h with
 | yes hn hl ht=>simp; omega
 | no hn hl ht=>simp; omega
 | cmp hk ha hb=>simp
theorem GL.tx {vs p : List W} {y : Bool} (h : GL vs p y) : Tx p:=V2 h.ne h.ok (by have:=h.len; omega)
theorem JP {k : W} {R : D->Prop} (q : R (.bl (decide (k = wYes) || decide (k = wNot)))) : Op (inE false (sD k) (.tup [.str "yes",.str "not"])) R:=by
 rw [uH,ju]; exact XJ q
theorem qL {k : W} {xs : List D} : M_has_predicate [.tup (sD k::xs)] = some (.sh (.bl (decide (k = wYes) || decide (k = wNot)))):=by
 apply Op.eq
 unfold M_has_predicate xT
 walk_at "wrun"
 walk_at "wp"
 refine zP (k:=0) rfl ?_
 walk_at "wp"
 refine ⟨zE (show 2 <= 10000 by decide),?_⟩
 refine JP ?_
 rfl
theorem J3 {k : W} (h : isU k = true) : k ≠ wYes /\ k ≠ wNot:=by
 unfold isU at h
 rw [Bool.or_eq_true,decide_eq_true_iff,decide_eq_true_iff] at h
 rcases h with rfl | rfl <;> decide
theorem XN {vs p : List W} {y : Bool} (h : GL vs p y) : M_literal_words [lD p] = some (.sh (.tup (p.map rt))):=by
 cases h with
 | @yes n ts hn hl ht=>
  rw [Zm hn]
  apply Op.eq
  unfold M_literal_words yA
  walk_at "wrun"
  walk_at "wp"
  refine zt qL ?_
  walk_at "wp"
  refine zP (k:=1) rfl ?_
  walk_at "wp"
  refine ⟨zE (show 1 <= 10000 by decide),?_⟩
  walk_at "wp"
  refine zP (k:=2) rfl ?_
  refine yr (by rw [List.length_map]; simp; omega) ?_
  walk_at "wp"
  refine zP (k:=0) rfl ?_
  walk_at "wp"
  rw [uH]
  refine eqS ?_
  walk_at "wp"
  rw [List.map_cons,xn hn]; rfl
 | @no n ts hn hl ht=>
  rw [VV]
  apply Op.eq
  unfold M_literal_words yA
  walk_at "wrun"
  walk_at "wp"
  refine zt qL ?_
  walk_at "wp"
  refine zP (k:=1) rfl ?_
  walk_at "wp"
  refine ⟨zE (show 1 <= 10000 by decide),?_⟩
  walk_at "wp"
  refine zP (k:=2) rfl ?_
  refine yr (by rw [List.length_map]; simp; omega) ?_
  walk_at "wp"
  refine zP (k:=0) rfl ?_
  walk_at "wp"
  rw [uH]
  refine eqS ?_
  walk_at "wp"
  refine ⟨zE (show 1 <= 10000 by decide),?_⟩
  walk_at "wp"
  refine yr (by simp; omega) ?_
  rw [ju,List.map_cons,List.map_cons,xn hn,Yi (k:=wNot) (by decide)]; rfl
 | @cmp k a b hk ha hb=>
  rw [Zn hk]
  apply Op.eq
  unfold M_literal_words yA
  walk_at "wrun"
  walk_at "wp"
  refine zt qL ?_
  rw [decide_eq_false (J3 hk).1,decide_eq_false (J3 hk).2]
  walk_at "wp"
  rw [List.map_cons,Yi (zc3 hk)]; rfl
theorem Tl {vs p : List W} {y : Bool} (h : GL vs p y) : M__law_literal_text [lD p] = some (.sh (sD (jB p))):=by
 have gn : ∀ l : List D,l++gD [] = l:=fun l=>by rw [show gD [] = [] from if_pos rfl,List.append_nil]
 cases h with
 | @yes n ts hn hl ht=>
  have tx : Tx (n::ts):=(GL.yes hn hl ht).tx
  have:=zbO (ws:=n::ts) (g:=[]) (fun w hw=>((GL.yes hn hl ht).ok w hw).sw) (by rw [List.append_nil]; exact tx)
  rw [gn,List.append_nil,List.map_cons,xn hn] at this
  rw [Zm hn]
  apply Op.eq
  unfold M__law_literal_text ye
  walk_at "wrun"
  walk_at "wp"
  refine zP (k:=0) rfl ?_
  walk_at "wp"
  rw [uH]
  refine eqS ?_
  walk_at "wp"
  refine zP (k:=1) rfl ?_
  walk_at "wp"
  refine ⟨zE (show 1 <= 10000 by decide),?_⟩
  walk_at "wp"
  refine zP (k:=2) rfl ?_
  refine yr (by rw [List.length_map]; simp; omega) ?_
  walk_at "wp"
  exact zt this rfl
 | @no n ts hn hl ht=>
  have g0 : GL vs (n::ts) true:=.yes hn hl ht
  have:=zbO (ws:=n::ts) (g:=[]) (fun w hw=>(g0.ok w hw).sw) (by rw [List.append_nil]; exact g0.tx)
  rw [gn,List.append_nil,List.map_cons,xn hn] at this
  rw [VV]
  apply Op.eq
  unfold M__law_literal_text ye
  walk_at "wrun"
  walk_at "wp"
  refine zP (k:=0) rfl ?_
  walk_at "wp"
  rw [uH]
  refine eqS ?_
  walk_at "wp"
  refine zP (k:=0) rfl ?_
  walk_at "wp"
  rw [ju]
  refine eqS ?_
  walk_at "wp"
  refine zP (k:=1) rfl ?_
  walk_at "wp"
  refine ⟨zE (show 1 <= 10000 by decide),?_⟩
  walk_at "wp"
  refine zP (k:=2) rfl ?_
  refine yr (by rw [List.length_map]; simp; omega) ?_
  walk_at "wp"
  refine zt this ?_
  walk_at "wp"
  rw [show ("not " : Str) = S [110,111,116,32] by decide +kernel]
  refine jw (by have:=wA g0.tx.lb; have:=g0.tx.le; simp only [List.length_cons,List.length_nil] at *; omega) ?_
  rfl
 | @cmp k a b hk ha hb=>
  have g0 : GL vs [k,a,b] false:=.cmp hk ha hb
  have:=zbO (ws:=[k,a,b]) (g:=[]) (fun w hw=>(g0.ok w hw).sw) (by rw [List.append_nil]; exact g0.tx)
  rw [gn,List.append_nil,List.map_cons,Yi (zc3 hk)] at this
  rw [Zn hk]
  apply Op.eq
  unfold M__law_literal_text ye
  walk_at "wrun"
  walk_at "wp"
  refine zP (k:=0) rfl ?_
  walk_at "wp"
  rw [uH]
  refine eqS ?_
  rw [decide_eq_false (J3 hk).1]
  walk_at "wp"
  refine zP (k:=0) rfl ?_
  walk_at "wp"
  rw [ju]
  refine eqS ?_
  rw [decide_eq_false (J3 hk).2]
  walk_at "wp"
  exact zt this rfl
theorem Yj {w : W} {ws : List W} (hw : nmB w = true) (h : ∀ v ∈ ws,Good v /\ cnB v = true) : ∀ v ∈ w::ws,Ok v:=fun v hv=>(List.mem_cons.mp hv).elim (fun e=>e ▸ jD hw) fun hv=>(h v hv).1.ok
theorem XO {w : W} {ws : List W} (hw : nmB w = true) (hl : ws.length <= 4) (h : ∀ v ∈ ws,Good v /\ cnB v = true) : M_fact_text [fD (w::ws)] = some (.sh (sD (jB (w::ws)))):=by
 have ok:=Yj hw h
 have:=zc2 (fun v hv=>(ok v hv).sw) (V2 (by simp) ok (by simp; omega))
 rw [List.map_cons,xn hw] at this
 show M_fact_text [.tup [sD w,.tup (ws.map rt)]] = _
 apply Op.eq
 unfold M_fact_text ug
 walk_at "wrun"
 walk_at "wp"
 refine zP (k:=0) rfl ?_
 walk_at "wp"
 refine ⟨zE (show 1 <= 10000 by decide),?_⟩
 walk_at "wp"
 refine zP (k:=1) rfl ?_
 refine yr (by rw [List.length_map]; simp; omega) ?_
 walk_at "wp"
 exact zt this rfl
theorem jE {w : W} {ws : List W} (hw : nmB w = true) (hl : ws.length <= 4) (h : ∀ v ∈ ws,Good v /\ cnB v = true) : M__law_words [.tup (sD w::ws.map rt)] = some (.sh (sD (jB (w::ws)))):=by
 have ok:=Yj hw h
 have:=zbO (ws:=w::ws) (g:=[]) (fun v hv=>(ok v hv).sw) (by rw [List.append_nil]; exact V2 (by simp) ok (by simp; omega))
 rwa [show gD [] = [] from if_pos rfl,List.append_nil,List.append_nil,List.map_cons,xn hw] at this
theorem XQ {w : W} {ws : List W} (hw : nmB w = true) (hl : ws.length <= 4) (h : ∀ v ∈ ws,Good v /\ cnB v = true) : M_read_fact [sD (jB (w::ws))] = some (.sh (fD (w::ws))):=by
 have ok:=Yj hw h
 refine zcP (V2 (by simp) ok (by simp; omega)) ?_
 show (nmB w && decide (ws.length <= 4) && ws.all cnB) = true
 rw [hw,decide_eq_true hl,List.all_eq_true.mpr fun v hv=>(h v hv).2]; rfl
def Zp : List W->List W
 | []=>[]
 | [w]=>[w++[44]]
 | w::x::r=>w::Zp (x::r)
def cm : List (List W)->List W
 | []=>[]
 | [p]=>p
 | p::q::r=>Zp p++cm (q::r)
theorem jF {w : W} {r : List W} (h : r ≠ []) : jB (w::r) = w++32::jB r:=by
 cases r with
 | nil=>exact absurd rfl h
 | cons x r=>rfl
theorem V3 : ∀ {a b : List W},a ≠ []->b ≠ []->jB (a++b) = jB a++32::jB b
 | [w],b,_,hb=>by rw [List.singleton_append,jF hb]; rfl
 | w::x::r,b,_,hb=>by
  rw [List.cons_append,jF (by simp),V3 (a:=x::r) (by simp) hb]
  show _ = (w++32::jB (x::r))++32::jB b
  simp
theorem Yk {p : List W} (h : p ≠ []) : Zp p ≠ []:=by
 match p,h with
 | [w],_=>simp [Zp]
 | w::x::r,_=>simp [Zp]
theorem V4 : ∀ {p : List W},p ≠ []->jB (Zp p) = jB p++[44]
 | [w],_=>rfl
 | w::x::r,_=>by rw [Zp,jF (Yk (by simp)),V4 (p:=x::r) (by simp)]; show _ = (w++32::jB (x::r))++[44]; simp
theorem Tm : ∀ {bd : List (List W)},bd ≠ []->(∀ p ∈ bd,p ≠ [])->cm bd ≠ []
 | [p],_,h=>h p (by simp)
 | p::q::r,_,h=>by rw [cm]; intro e; exact Yk (h p (by simp)) (List.append_eq_nil_iff.mp e).1
theorem JQ {s w : W} {r : List W} (h : r ≠ []) : jG s (w::r) = w++(s++jG s r):=by
 cases r with
 | nil=>exact absurd rfl h
 | cons x r=>rfl
theorem zbQ : ∀ {bd : List (List W)},bd ≠ []->(∀ p ∈ bd,p ≠ [])->jB (cm bd) = jG [44,32] (bd.map jB)
 | [p],_,h=>rfl
 | p::q::r,_,h=>by
  have h2 : ∀ x ∈ q::r,x ≠ []:=fun x hx=>h x (List.mem_cons_of_mem _ hx)
  rw [cm,V3 (Yk (h p (by simp))) (Tm (by simp) h2),V4 (h p (by simp)),zbQ (by simp) h2,List.map_cons (a:=p),JQ (r:=(q::r).map jB) (by simp)]
  simp
theorem V5 : ∀ {p rest : List W},p ≠ []->rest ≠ []->(∀ w ∈ p,w.getLast? ≠ some 44)->bpW (Zp p++rest) = p::bpW rest
 | [w],x::r,_,_,h=>by
  rw [Zp,List.singleton_append,bpW,if_pos (by simp)]
  simp
 | w::x::r,rest,_,hr,h=>by
  have ih:=V5 (p:=x::r) (rest:=rest) (by simp) hr fun v hv=>h v (List.mem_cons_of_mem _ hv)
  rw [Zp,List.cons_append]
  cases e : Zp (x::r)++rest with
  | nil=>exact absurd (List.append_eq_nil_iff.mp e).2 hr
  | cons y s=>rw [bpW,if_neg (h w (by simp)),<- e,ih]; rfl
theorem Qh : ∀ {p : List W},p ≠ []->(∀ w ∈ p,w.getLast? ≠ some 44)->bpW p = [p]
 | [w],_,_=>rfl
 | w::x::r,_,h=>by rw [bpW,if_neg (h w (by simp)),Qh (p:=x::r) (by simp) fun v hv=>h v (List.mem_cons_of_mem _ hv)]; rfl
theorem zbR : ∀ {bd : List (List W)},bd ≠ []->(∀ p ∈ bd,p ≠ [] /\ ∀ w ∈ p,w.getLast? ≠ some 44)->bpW (cm bd) = bd
 | [p],_,h=>Qh (h p (by simp)).1 (h p (by simp)).2
 | p::q::r,_,h=>by
  have h2 : ∀ x ∈ q::r,x ≠ [] /\ ∀ w ∈ x,w.getLast? ≠ some 44:=fun x hx=>h x (List.mem_cons_of_mem _ hx)
  rw [cm,V5 (h p (by simp)).1 (Tm (by simp) fun x hx=>(h2 x hx).1) (h p (by simp)).2,zbR (by simp) h2]
theorem zbS : ∀ {hd rest : List W},hd ≠ []->rest ≠ []->(∀ w ∈ hd.drop 1,w ≠ wIf)->ptW (hd++wIf::rest) = some (hd,rest)
 | [w],rest,_,hr,_=>by rw [List.singleton_append,ptW,if_pos ⟨rfl,hr⟩]
 | w::x::r,rest,_,hr,h=>by
  have hx : x ≠ wIf:=h x (by simp)
  have ih:=zbS (hd:=x::r) (rest:=rest) (by simp) hr fun v hv=>h v (by
   rw [List.drop_succ_cons,List.drop_zero] at hv ⊢
   exact List.mem_cons_of_mem _ hv)
  rw [List.cons_append,List.cons_append,ptW,if_neg (fun z=>hx z.1),<- List.cons_append,ih]
  rfl
theorem Y4 : ∀ {p : List W} {w : W},w ∈ Zp p->∃ v ∈ p,w = v \/ w = v++[44]
 | [],w,h=>by simp [Zp] at h
 | [v],w,h=>by rw [Zp,List.mem_singleton] at h; exact ⟨v,by simp,.inr h⟩
 | u::x::r,w,h=>by
  rw [Zp] at h
  rcases List.mem_cons.mp h with rfl | h
  ·exact ⟨w,by simp,.inl rfl⟩
  ·obtain ⟨v,hv,e⟩:=Y4 h
   exact ⟨v,List.mem_cons_of_mem _ hv,e⟩
theorem Qi : ∀ {bd : List (List W)} {w : W},w ∈ cm bd->∃ p ∈ bd,∃ v ∈ p,w = v \/ w = v++[44]
 | [],w,h=>by simp [cm] at h
 | [p],w,h=>⟨p,by simp,w,h,.inl rfl⟩
 | p::q::r,w,h=>by
  rw [cm] at h
  rcases List.mem_append.mp h with h | h
  ·obtain ⟨v,hv,e⟩:=Y4 h
   exact ⟨p,by simp,v,hv,e⟩
  ·obtain ⟨x,hx,e⟩:=Qi h
   exact ⟨x,List.mem_cons_of_mem _ hx,e⟩
theorem Y5 : ∀ p : List W,(Zp p).length = p.length
 | []=>rfl
 | [w]=>rfl
 | w::x::r=>by rw [Zp,List.length_cons,Y5 (x::r)]; rfl
theorem Qj : ∀ {bd : List (List W)},(∀ p ∈ bd,p.length <= 6)->(cm bd).length <= 6 * bd.length
 | [],_=>by simp [cm]
 | [p],h=>by have:=h p (by simp); simp only [cm,List.length_cons,List.length_nil]; omega
 | p::q::r,h=>by
  have h1:=h p (by simp)
  have h2:=Qj (bd:=q::r) fun x hx=>h x (List.mem_cons_of_mem _ hx)
  rw [cm,List.length_append,Y5]
  simp only [List.length_cons] at h2 ⊢
  omega
def hdW (n : W) (ts g : List W) : List W:=n::(ts++g)
def wsR (n : W) (ts g : List W) (bd : List (List W)) : List W:=hdW n ts g++wIf::cm bd
theorem GG.ok {vs g : List W} (h : GG vs g) : ∀ w ∈ g,Ok w:=by
 cases h with
 | nil=>exact fun w hw=>nomatch hw
 | cnt=>intro w hw; rw [List.mem_singleton] at hw; subst hw; exact V1 (by decide)
 | sum hv _=>
  intro w hw
  rcases List.mem_cons.mp hw with rfl | hw
  ·exact V1 (by decide)
  ·rw [List.mem_singleton] at hw; subst hw; exact (vF hv).ok
 | lst hv _=>
  intro w hw
  rcases List.mem_cons.mp hw with rfl | hw
  ·exact V1 (by decide)
  ·rw [List.mem_singleton] at hw; subst hw; exact (vF hv).ok
theorem xo {w : W} {g : List W} : gD (w::g) = [.tup ((w::g).map sD)]:=if_neg (by simp)
theorem Zq : gD [] = []:=if_pos rfl
theorem GG.len {vs g : List W} (h : GG vs g) : g.length <= 2:=by cases h <;> simp
theorem GG.if_ {vs g : List W} (h : GG vs g) : ∀ w ∈ g,w ≠ wIf:=by
 have vi : ∀ v : W,vrB v = true->v ≠ wIf:=fun v hv e=>by subst e; exact absurd hv (by decide)
 cases h with
 | nil=>exact fun w hw=>nomatch hw
 | cnt=>intro w hw; rw [List.mem_singleton] at hw; subst hw; decide
 | sum hv _=>
  intro w hw
  rcases List.mem_cons.mp hw with rfl | hw
  ·decide
  ·rw [List.mem_singleton] at hw; subst hw; exact vi _ hv
 | lst hv _=>
  intro w hw
  rcases List.mem_cons.mp hw with rfl | hw
  ·decide
  ·rw [List.mem_singleton] at hw; subst hw; exact vi _ hv
theorem GG.rt {vs g : List W} (h : GG vs g) : g.map rt = g.map sD:=by
 cases h with
 | nil=>rfl
 | cnt=>rw [List.map_cons,Yi (by decide)]; rfl
 | sum hv _=>rw [List.map_cons,Yi (by decide),List.map_cons,Zi hv]; rfl
 | lst hv _=>rw [List.map_cons,Yi (by decide),List.map_cons,Zi hv]; rfl
section
variable {vs : List W} {n : W} {ts g : List W} {bd : List (List W)}
theorem GR.tl (h : GR vs n ts g bd) : ts.length <= 4:=by have:=h.gl; omega
theorem GR.hl (h : GR vs n ts g bd) : (hdW n ts g).length <= 7:=by
 have:=h.tl; have:=h.gg.len
 simp [hdW]; omega
theorem GR.hok (h : GR vs n ts g bd) : ∀ w ∈ hdW n ts g,Ok w:=fun w hw=>by
 rcases List.mem_cons.mp hw with rfl | hw
 ·exact jD h.nm
 ·rcases List.mem_append.mp hw with hw | hw
  ·exact (h.gt w hw).1.ok
  ·exact h.gg.ok w hw
theorem GR.htx (h : GR vs n ts g bd) : Tx (hdW n ts g):=V2 (by simp [hdW]) h.hok (by have:=h.hl; omega)
theorem GR.bne (h : GR vs n ts g bd) : bd ≠ []:=fun e=>by have:=h.b1; rw [e] at this; simp at this
theorem GR.pne (h : GR vs n ts g bd) : ∀ p ∈ bd,p ≠ []:=fun p hp=>(h.bl p hp).elim fun _ gl=>gl.ne
theorem GR.pla (h : GR vs n ts g bd) : ∀ p ∈ bd,p ≠ [] /\ ∀ w ∈ p,w.getLast? ≠ some 44:=fun p hp=>(h.bl p hp).elim fun _ gl=>⟨gl.ne,fun w hw=>(gl.ok w hw).la⟩
theorem GR.hif (h : GR vs n ts g bd) : ∀ w ∈ (hdW n ts g).drop 1,w ≠ wIf:=fun w hw=>by
 have hw : w ∈ ts++g:=hw
 rcases List.mem_append.mp hw with hw | hw
 ·intro e; subst e; exact (h.gt _ hw).1.kw (by decide)
 ·exact h.gg.if_ w hw
theorem GR.tx (h : GR vs n ts g bd) : Tx (wsR n ts g bd):=by
 have hc : ∀ w ∈ cm bd,32 ∉ w /\ w.length <= 32:=fun w hw=>by
  obtain ⟨p,hp,v,hv,e⟩:=Qi hw
  obtain ⟨y,gl⟩:=h.bl p hp
  have ok:=gl.ok v hv
  rcases e with rfl | rfl
  ·exact ⟨ok.nb,by have:=ok.le; omega⟩
  ·refine ⟨fun hm=>?_,by have:=ok.le; simp; omega⟩
   rcases List.mem_append.mp hm with hm | hm
   ·exact ok.nb hm
   ·simp at hm
 refine ⟨by simp [wsR,hdW],fun w hw=>?_,fun w hw=>?_,?_⟩
 ·rcases List.mem_append.mp hw with hw | hw
  ·exact (h.hok w hw).nb
  ·rcases List.mem_cons.mp hw with rfl | hw
   ·decide
   ·exact (hc w hw).1
 ·rcases List.mem_append.mp hw with hw | hw
  ·have:=(h.hok w hw).le; omega
  ·rcases List.mem_cons.mp hw with rfl | hw
   ·decide
   ·have:=(hc w hw).2; omega
 ·have h1:=h.hl
  have h2:=Qj (bd:=bd) fun p hp=>(h.bl p hp).elim fun _ gl=>gl.len
  have h3:=h.b6
  rw [wsR,List.length_append,List.length_cons]
  omega
theorem GR.text (h : GR vs n ts g bd) : jB (wsR n ts g bd) = jB (hdW n ts g)++(yIf++jG [44,32] (bd.map jB)):=by
 rw [wsR,V3 (by simp [hdW]) (by simp),jF (Tm h.bne h.pne),zbQ h.bne h.pne]
 simp [yIf,wIf]
theorem GR.prs (h : GR vs n ts g bd) : prs (wsR n ts g bd) = (hdW n ts g,cm bd):=by
 unfold K41.prs wsR
 rw [zbS (by simp [hdW]) (Tm h.bne h.pne) h.hif]; rfl
theorem GR.bp (h : GR vs n ts g bd) : bpW (cm bd) = bd:=zbR h.bne h.pla
theorem Tn {ts : List W} (h : ∀ t ∈ ts,t ∉ kws) : hT ts = ts.map rt:=by
 have hr : ∀ t ∈ ts.reverse,t ∉ kws:=fun t ht=>h t (List.mem_reverse.mp ht)
 unfold hT
 split
 ·rename_i e
  rw [List.reverse_eq_nil_iff.mp e]; rfl
 ·rename_i z us e
  rw [if_neg (fun c=>hr z (by rw [e]; simp) (by rw [c]; decide))]
  split
  ·rfl
  ·rename_i y vs
   rw [if_neg (fun c=>hr y (by rw [e]; simp) (by rcases c with c | c <;> rw [c] <;> decide))]
theorem GR.hT (h : GR vs n ts g bd) : hT (ts++g) = ts.map rt++gD g:=by
 have vc : ∀ v : W,vrB v = true->v ≠ wCount:=fun v hv e=>by subst e; exact absurd hv (by decide)
 have hts : ∀ t ∈ ts,t ∉ kws:=fun t ht=>(h.gt t ht).1.kw
 cases h.gg with
 | nil=>rw [List.append_nil,Tn hts,Zq,List.append_nil]
 | cnt=>
  unfold K41.hT
  rw [show (ts++[wCount]).reverse = wCount::ts.reverse by simp]
  show (if wCount = wCount then _ else _) = _
  rw [if_pos rfl,List.reverse_reverse,xo]; rfl
 | @sum v hv _=>
  unfold K41.hT
  rw [show (ts++[wSum,v]).reverse = v::wSum::ts.reverse by simp]
  show (if v = wCount then _ else if wSum = wSum \/ wSum = wLeast then _ else _) = _
  rw [if_neg (vc v hv),if_pos (.inl rfl),List.reverse_reverse,xo]; rfl
 | @lst v hv _=>
  unfold K41.hT
  rw [show (ts++[wLeast,v]).reverse = v::wLeast::ts.reverse by simp]
  show (if v = wCount then _ else if wLeast = wSum \/ wLeast = wLeast then _ else _) = _
  rw [if_neg (vc v hv),if_pos (.inr rfl),List.reverse_reverse,xo]; rfl
theorem GR.rD (h : GR vs n ts g bd) : rD (hdW n ts g) bd = rlD n ts g bd:=by
 show D.tup [sD n,.tup (K41.hT (ts++g)),.tup (bd.map lD)] = _
 rw [h.hT]; rfl
theorem V6 (h : ∀ t ∈ ts,GT vs t) : ts.all tmB = true:=List.all_eq_true.mpr fun t ht=>(h t ht).1.tm
theorem V7 {ts : List W} (h : ∀ t ∈ ts,t ∉ kws) (ht : ts.all tmB = true) (hl : ts.length <= 4) : okH ts = true:=by
 have hr : ∀ t ∈ ts.reverse,t ∉ kws:=fun t ht=>h t (List.mem_reverse.mp ht)
 unfold okH
 split
 ·rfl
 ·rename_i z us e
  rw [if_neg (fun c=>hr z (by rw [e]; simp) (by rw [c]; decide))]
  split
  ·rw [ht,decide_eq_true hl]; rfl
  ·rename_i y vs
   rw [if_neg (fun c=>hr y (by rw [e]; simp) (by rcases c with c | c <;> rw [c] <;> decide)),ht,decide_eq_true hl]; rfl
theorem GR.okH (h : GR vs n ts g bd) : okH (ts++g) = true:=by
 have vc : ∀ v : W,vrB v = true->v ≠ wCount:=fun v hv e=>by subst e; exact absurd hv (by decide)
 have hts : ∀ t ∈ ts,t ∉ kws:=fun t ht=>(h.gt t ht).1.kw
 have hl:=h.gl
 have ha:=V6 h.gt
 cases h.gg with
 | nil=>rw [List.append_nil]; exact V7 hts ha h.tl
 | cnt=>
  rw [xo] at hl
  simp only [List.length_cons,List.length_nil] at hl
  unfold K41.okH
  rw [show (ts++[wCount]).reverse = wCount::ts.reverse by simp]
  show (if wCount = wCount then _ else _) = _
  rw [if_pos rfl,List.reverse_reverse,ha,decide_eq_true (by simp; omega)]; rfl
 | @sum v hv _=>
  rw [xo] at hl
  simp only [List.length_cons,List.length_nil] at hl
  unfold K41.okH
  rw [show (ts++[wSum,v]).reverse = v::wSum::ts.reverse by simp]
  show (if v = wCount then _ else if wSum = wSum \/ wSum = wLeast then _ else _) = _
  rw [if_neg (vc v hv),if_pos (.inl rfl),List.reverse_reverse,ha,hv,decide_eq_true (by simp; omega)]; rfl
 | @lst v hv _=>
  rw [xo] at hl
  simp only [List.length_cons,List.length_nil] at hl
  unfold K41.okH
  rw [show (ts++[wLeast,v]).reverse = v::wLeast::ts.reverse by simp]
  show (if v = wCount then _ else if wLeast = wSum \/ wLeast = wLeast then _ else _) = _
  rw [if_neg (vc v hv),if_pos (.inr rfl),List.reverse_reverse,ha,hv,decide_eq_true (by simp; omega)]; rfl
theorem GL.okLit {vs p : List W} {y : Bool} (h : GL vs p y) : okLit p = true:=by
 cases h with
 | @yes n ts hn hl ht=>
  rw [wC,VP hn,if_neg Bool.false_ne_true,if_neg (VO hn (by decide)),hn,decide_eq_true hl,V6 ht]; rfl
 | @no n ts hn hl ht=>
  rw [wC,if_neg (by decide),if_pos rfl]
  show (nmB n && (decide (ts.length <= 4) && ts.all tmB)) = true
  rw [hn,decide_eq_true hl,V6 ht]; rfl
 | @cmp k a b hk ha hb=>
  rw [wC,if_pos hk]
  show (tmB a && tmB b) = true
  rw [ha.1.tm,hb.1.tm]; rfl
theorem GR.okR (h : GR vs n ts g bd) : okR (hdW n ts g) bd = true:=by
 show (nmB n && (K41.okH (ts++g) && okB bd)) = true
 rw [h.nm,h.okH]
 unfold okB
 rw [decide_eq_true h.b1,decide_eq_true h.b6,decide_eq_true h.by4,List.all_eq_true.mpr fun p hp=>(h.bl p hp).elim fun _ gl=>gl.okLit]; rfl
end
theorem V8 {α : Type} [DecidableEq α] : ∀ (l ys : List α),ys.Nodup->(∀ z ∈ ys,z ∈ l)->ys.length <= l.length
 | [],ys,_,h=>by
  cases ys with
  | nil=>exact Nat.le_refl _
  | cons y ys=>exact absurd (h y (.head _)) (by simp)
 | a::l,ys,hn,h=>by
  have h1:=V8 l (ys.erase a) (hn.erase a) fun z hz=>by
   have h2:=(List.Nodup.mem_erase_iff hn).mp hz
   rcases List.mem_cons.mp (h z h2.2) with e | e
   ·exact absurd e h2.1
   ·exact e
  rw [List.length_erase] at h1
  simp only [List.length_cons]
  split at h1 <;> omega
theorem Y6 : ∀ zs : List Str,xF (zs.map D.str) = some zs
 | []=>rfl
 | z::zs=>by simp [xF,Y6 zs]
theorem Zr {f : FE} {δ : En} {Rr : Rs->Prop} {zs : List Str} (e : f δ = some (.lst (zs.map .str))) (h : zs.length < 64) (k : Rr (.fr (.lst ((wj zs).map .str)))) : Op (wy f δ) Rr:=by
 refine zt ?_ k
 unfold wy
 rw [e]
 show (xF (zs.map .str)).bind _ = _
 rw [Y6]
 show (if zs.length < 64 then _ else _) = _
 rw [if_pos h]
theorem zbT {a b : D} {xs : List D} (h : ∀ x ∈ xs,TK "tuple" x = false /\ TJ x = false) : M_is_group [.tup [a,.tup xs,b]] = some (.sh (.bl false)):=by
 apply Op.eq
 unfold M_is_group wT
 walk_at "wrun"
 walk_at "wp"
 refine zP (k:=1) rfl ?_
 walk_at "wp"
 rcases List.eq_nil_or_concat xs with rfl | ⟨ys,y,e⟩
 ·walk_at "wp"
  rfl
 ·rw [List.concat_eq_append] at e
  subst e
  rw [decide_eq_true (by simp)]
  walk_at "wp"
  refine zP (k:=1) rfl ?_
  walk_at "wp"
  refine zt (tW ys y) ⟨(h y (by simp)).2,?_⟩
  rw [(h y (by simp)).1]
theorem JR {a b : D} {xs ys : List D} : M_is_group [.tup [a,.tup (xs++[.tup ys]),b]] = some (.sh (.bl true)):=by
 apply Op.eq
 unfold M_is_group wT
 walk_at "wrun"
 walk_at "wp"
 refine zP (k:=1) rfl ?_
 walk_at "wp"
 rw [decide_eq_true (by simp)]
 walk_at "wp"
 refine zP (k:=1) rfl ?_
 walk_at "wp"
 refine zt (tW xs _) ⟨rfl,?_⟩
 rfl
section
variable {vs : List W} {n : W} {ts g : List W} {bd : List (List W)}
theorem zbU (h : GR vs n ts [] bd) : M_is_group [rlD n ts [] bd] = some (.sh (.bl false)):=by
 unfold rlD
 rw [Zq,List.append_nil]
 exact zbT fun x hx=>by obtain ⟨w,_,rfl⟩:=List.mem_map.mp hx; exact ⟨zbN,zbM⟩
theorem Qk {w : W} : M_is_group [rlD n ts (w::g) bd] = some (.sh (.bl true)):=by
 unfold rlD
 rw [xo]
 exact JR
theorem Yl (h : GR vs n ts g bd) : M_head_words [rlD n ts g bd] = some (.sh (.tup ((hdW n ts g).map rt))):=by
 have htl:=h.tl
 have hgl:=h.gg.len
 have fin : ∀ {R : D->Prop},R (.tup ((hdW n ts g).map rt))->Op (addD (.tup [sD n]) (.tup ((ts++g).map rt))) R:=fun k=>by
  refine yr (by rw [List.length_map,List.length_append]; simp; omega) ?_
  rw [<- xn h.nm]; exact k
 apply Op.eq
 unfold M_head_words vo
 walk_at "wrun"
 walk_at "wp"
 cases g with
 | nil=>
  refine zt (zbU h) ?_
  walk_at "wp"
  refine zP (k:=1) rfl ?_
  walk_at "wp"
  refine zP (k:=0) rfl ?_
  walk_at "wp"
  refine ⟨zE (show 1 <= 10000 by decide),?_⟩
  walk_at "wp"
  rw [Zq,List.append_nil]
  rw [List.append_nil] at fin
  exact fin rfl
 | cons w g=>
  refine zt Qk ?_
  unfold rlD
  rw [xo]
  walk_at "wp"
  refine zP (k:=1) rfl ?_
  walk_at "wp"
  refine zP (k:=1) rfl ?_
  walk_at "wp"
  refine zt (tW _ _) ?_
  rw [Zf]
  refine yr (by rw [List.length_map,List.length_map]; omega) ?_
  walk_at "wp"
  refine zP (k:=0) rfl ?_
  walk_at "wp"
  refine ⟨zE (show 1 <= 10000 by decide),?_⟩
  walk_at "wp"
  rw [<- h.gg.rt,<- List.map_append]
  exact fin rfl
theorem XR (h : GR vs n ts g bd) : M_words_text [.tup ((hdW n ts g).map rt)] = some (.sh (sD (jB (hdW n ts g)))):=zc2 (fun w hw=>(h.hok w hw).sw) h.htx
theorem V9 (h : GR vs n ts g bd) : M__law_words [.tup (sD n::(ts.map rt++gD g))] = some (.sh (sD (jB (hdW n ts g)))):=by
 have:=zbO (ws:=n::ts) (g:=g) (fun w hw=>(h.hok w (by
  rcases List.mem_cons.mp hw with rfl | hw
  ·exact List.mem_cons_self
  ·exact List.mem_cons_of_mem _ (List.mem_append.mpr (.inl hw)))).sw) h.htx
 rwa [List.map_cons,xn h.nm] at this
theorem Ua (h : GR vs n ts g bd) : ∀ w ∈ bd.map jB,w.length <= 246:=fun w hw=>by
 obtain ⟨p,hp,rfl⟩:=List.mem_map.mp hw
 obtain ⟨y,gl⟩:=h.bl p hp
 have:=wA gl.tx.lb
 have:=gl.len
 omega
theorem Ql {b : Nat} : ∀ {ws : List W},(∀ w ∈ ws,w.length <= b)->(jG [44,32] ws).length <= (b + 2) * ws.length
 | [],_=>by simp [jG]
 | [w],h=>by have:=h w (by simp); simp only [jG,List.length_cons,List.length_nil]; omega
 | w::x::r,h=>by
  have h1:=h w (by simp)
  have h2:=Ql (ws:=x::r) fun v hv=>h v (List.mem_cons_of_mem _ hv)
  simp only [jG,List.length_append,List.length_cons,List.length_nil] at h2 ⊢
  rw [Nat.mul_succ]
  omega
theorem Y7 (h : GR vs n ts g bd) : (jG [44,32] (bd.map jB)).length <= 1488:=by
 have h1:=Ql (Ua h)
 have h2:=h.b6
 rw [List.length_map] at h1
 omega
theorem Y8 (h : GR vs n ts g bd) : (jB (hdW n ts g)).length <= 287:=by
 have:=wA h.htx.lb
 have:=h.hl
 omega
theorem qM (h : GR vs n ts g bd) {R : D->Prop} (k : R (sD (jG [44,32] (bd.map jB)))) : Op (uB (.str ", ") (.lst (bd.map fun p=>sD (jB p)))) R:=by
 rw [show bd.map (fun p=>sD (jB p)) = (bd.map jB).map sD by rw [List.map_map]; rfl]
 refine V0 (s:=[44,32]) (by decide +kernel) (fun e=>h.bne (List.map_eq_nil_iff.mp e)) (by decide) (fun w hw=>by have:=Ua h w hw; omega) (by have:=h.b6; rw [List.length_map]; omega) k
theorem XS (h : GR vs n ts g bd) : M_rule_text [rlD n ts g bd] = some (.sh (sD (jB (wsR n ts g bd)))):=by
 have hb:=Y7 h
 have hh:=Y8 h
 apply Op.eq
 unfold M_rule_text uh
 walk_at "wrun"
 walk_at "wp"
 refine zt (Yl h) ?_
 walk_at "wp"
 refine zt (XR h) ?_
 unfold rlD
 walk_at "wp"
 refine zP (k:=2) rfl ?_
 walk_at "wp"
 refine ⟨zE (by have:=h.b6; rw [List.length_map]; omega),yz (k:=lD) (hh:=fun p=>sD (jB p)) (fun p hp=>?_) ?_⟩
 ·obtain ⟨y,gl⟩:=h.bl p hp
  walk_at "wp"
  refine zt (XN gl) ?_
  walk_at "wp"
  exact zt (zc2 (fun w hw=>(gl.ok w hw).sw) gl.tx) rfl
 ·walk_at "wp"
  refine qM h ?_
  walk_at "wp"
  have e : ∀ a b : W,Str.empty++S a++(" if " : Str)++S b = S (a++(yIf++b)):=fun a b=>by
   rw [show Str.empty = S [] from rfl,zb8,XM,XM,XM]; simp
  refine zt (d:=sD (jB (wsR n ts g bd))) ?_ rfl
  show (if _ /\ _ then some (D.str (Str.empty++S (jB (hdW n ts g))++(" if " : Str)++S (jG [44,32] (bd.map jB)))) else none) = _
  rw [e,<- h.text,if_pos]
  ·rfl
  ·rw [h.text,zb8,show Str.empty = S [] from rfl,XM,XM,yP,yP,yP,yP,yP]
   simp only [List.nil_append,List.length_append]
   have : yIf.length = 4:=rfl
   refine ⟨zE (by omega),zE (by omega),zE (by omega),zE (by omega),zE (by omega)⟩
end
theorem JS {z : Int} : M_is_variable [.int z] = some (.sh (.bl false)):=by kernel_rfl
theorem JT {w : W} (h : w.length <= 10000) : M_is_variable [rt w] = some (.sh (.bl (vrB w))):=by
 unfold rt
 split
 ·rename_i hn; rw [JS,Qf hn]
 ·exact Jx h
theorem zbV (ws : List W) : (ws.filter vrB).map rt = (ws.filter vrB).map sD:=List.map_congr_left fun w hw=>Zi (List.mem_filter.mp hw).2
theorem Zs {ws : List W} {R : List D->Prop} {i : Nat} {δ : En} (hw : ∀ w ∈ ws,w.length <= 10000) (q : R ((ws.filter vrB).map sD)) :
  Op (wF (fun x=>fB (zM (zr M_is_variable (zi (zU 0) fNil))) (List.set (csD 1 [] δ) 0 (some (Sl.sh x)))) (fun x=>zU 0 (List.set (csD 1 [] δ) 0 (some (Sl.sh x)))) (ws.map rt)) R:=by
 refine uQ (k:=rt) (p:=vrB) (hh:=rt) (fun w hm=>?_) (fun w _ _=>?_) (by rw [zbV]; exact q)
 ·walk_at "wp"
  refine zt (JT (hw w hm)) ?_
  walk_at "wp"
  rfl
 ·walk_at "wp"
  rfl
theorem zdJ {vs p : List W} {y : Bool} (h : GL vs p y) : ∃ us : List W,M_literal_variables [lD p] = some (.fr (.lst (us.map sD))) /\ us.length <= 4 /\ ∀ u ∈ us,u ∈ vs:=by
 have sub : ∀ ws : List W,(∀ t ∈ ws,GT vs t)->∀ u ∈ ws.filter vrB,u ∈ vs:=fun ws hw u hu=>(hw u (List.mem_filter.mp hu).1).2 (List.mem_filter.mp hu).2
 have len : ∀ ws : List W,ws.length <= 4->(ws.filter vrB).length <= 4:=fun ws hl=>Nat.le_trans (List.length_filter_le _ _) hl
 have wl : ∀ ws : List W,(∀ t ∈ ws,GT vs t)->∀ w ∈ ws,w.length <= 10000:=fun ws hw w hm=>by have:=(hw w hm).1.le; omega
 cases h with
 | @yes n ts hn hl ht=>
  refine ⟨ts.filter vrB,?_,len ts hl,sub ts ht⟩
  rw [Zm hn]
  apply Op.eq
  unfold M_literal_variables yd
  walk_at "wrun"
  walk_at "wp"
  refine zt qL ?_
  walk_at "wp"
  refine zP (k:=2) rfl ?_
  walk_at "wp"
  exact ⟨zE (by rw [List.length_map]; omega),Zs (i:=0) (wl ts ht) rfl⟩
 | @no n ts hn hl ht=>
  refine ⟨ts.filter vrB,?_,len ts hl,sub ts ht⟩
  rw [VV]
  apply Op.eq
  unfold M_literal_variables yd
  walk_at "wrun"
  walk_at "wp"
  refine zt qL ?_
  walk_at "wp"
  refine zP (k:=2) rfl ?_
  walk_at "wp"
  exact ⟨zE (by rw [List.length_map]; omega),Zs (i:=0) (wl ts ht) rfl⟩
 | @cmp k a b hk ha hb=>
  have hw : ∀ t ∈ [a,b],GT vs t:=fun t ht=>by
   rcases List.mem_cons.mp ht with rfl | ht
   ·exact ha
   ·rw [List.mem_singleton] at ht; subst ht; exact hb
  refine ⟨[a,b].filter vrB,?_,len _ (by simp),sub _ hw⟩
  rw [Zn hk]
  apply Op.eq
  unfold M_literal_variables yd
  walk_at "wrun"
  walk_at "wp"
  refine zt qL ?_
  rw [decide_eq_false (J3 hk).1,decide_eq_false (J3 hk).2]
  walk_at "wp"
  rw [show L2.cutD [sD k,rt a,rt b] (some 1) none = [a,b].map rt from XI _ _]
  exact ⟨zE (show 2 <= 10000 by decide),Zs (i:=0) (wl _ hw) rfl⟩
section
variable {vs : List W} {n : W} {ts g : List W} {bd : List (List W)}
theorem JU (us : List W) : us.map sD = (us.map S).map D.str:=by rw [List.map_map]; rfl
theorem zc5 (zs : List Str) : ∃ us : List W,(wj zs) = us.map S:=⟨(wj zs).map fun z=>z.cps.toList,by rw [List.map_map]; exact (List.map_id _).symm.trans (List.map_congr_left fun z _=>rfl)⟩
theorem zdK (h : GR vs n ts g bd) : ∃ us : List W,M_body_variables [.tup (bd.map lD)] = some (.fr (.lst (us.map sD))) /\ us.length <= 24 /\ ∀ u ∈ us,u ∈ vs:=by
 have h6:=h.b6
 suffices Op (M_body_variables [.tup (bd.map lD)]) fun r=>∃ us : List W,r = .fr (.lst (us.map sD)) /\ us.length <= 24 /\ ∀ u ∈ us,u ∈ vs by
  obtain ⟨r,e,us,rfl,h1,h2⟩:=this
  exact ⟨us,e,h1,h2⟩
 unfold M_body_variables xu
 walk_at "wrun"
 walk_at "wp"
 refine ⟨Nat.zero_le _,?_⟩
 walk_at "wp"
 refine xH (fun k δ=>∃ (us : List W) (x : Option Sl),δ = [some (.sh (.tup (bd.map lD))),some (.pv (.lst (us.map sD)) none),x] /\ us.length <= 4 * k /\ ∀ u ∈ us,u ∈ vs) ⟨[],_,rfl,by simp,(fun u hu=>nomatch hu)⟩ ?_ ?_
 ·rintro k d hk δ ⟨us,x,rfl,hl,hu⟩
  rw [List.getElem?_map] at hk
  obtain ⟨p,ep,rfl⟩:=omE hk
  have hkl:=(List.getElem?_eq_some_iff.mp ep).1
  obtain ⟨y,gl⟩:=h.bl p (List.mem_of_getElem? ep)
  obtain ⟨vs',e,hl',hv'⟩:=zdJ gl
  dsimp only [List.set]
  walk_at "wp"
  refine zt e ⟨_,rfl,zE (by rw [List.length_map,List.length_map]; omega),?_⟩
  walk_at "wp"
  refine ⟨us++vs',_,by rw [List.map_append],by rw [List.length_append]; omega,fun u hm=>(List.mem_append.mp hm).elim (hu u) (hv' u)⟩
 ·rintro δ ⟨us,x,rfl,hl,hu⟩
  rw [List.length_map] at hl
  walk_at "wp"
  refine Zr (zs:=us.map S) (by rw [JU]; rfl) (by rw [List.length_map]; omega) ?_
  obtain ⟨ws,ew⟩:=zc5 (us.map S)
  refine ⟨ws,by rw [ew,JU],?_,fun u hm=>?_⟩
  ·have:=tJ (zs:=us.map S)
   rw [ew,List.length_map,List.length_map] at this
   omega
  ·have : S u ∈ us.map S:=vm.mp (by rw [ew]; exact List.mem_map_of_mem hm)
   obtain ⟨v,hv,e⟩:=List.mem_map.mp this
   rw [<- VC.mp e]; exact hu v hv
theorem zdL (h : GR vs n ts g bd) : ∃ us : List W,M_head_variables [rlD n ts g bd] = some (.fr (.lst (us.map sD))) /\ us.length <= 6 /\ ∀ u ∈ us,u ∈ vs:=by
 have htl:=h.tl
 have hgl:=h.gg.len
 have hG : ∀ w ∈ ts++g.drop 1,GT vs w:=fun w hw=>by
  rcases List.mem_append.mp hw with hw | hw
  ·exact h.gt w hw
  ·cases h.gg with
   | nil=>exact absurd hw (by simp)
   | cnt=>exact absurd hw (by simp)
   | sum hv hm=>simp at hw; subst hw; exact ⟨vF hv,fun _=>hm⟩
   | lst hv hm=>simp at hw; subst hw; exact ⟨vF hv,fun _=>hm⟩
 have hwl : ∀ w ∈ ts++g.drop 1,w.length <= 10000:=fun w hm=>by have:=(hG w hm).1.le; omega
 have hlen : (ts++g.drop 1).length <= 6:=by rw [List.length_append,List.length_drop]; omega
 refine ⟨(ts++g.drop 1).filter vrB,?_,Nat.le_trans (List.length_filter_le _ _) hlen,fun u hu=>(hG u (List.mem_filter.mp hu).1).2 (List.mem_filter.mp hu).2⟩
 apply Op.eq
 unfold M_head_variables xv
 walk_at "wrun"
 walk_at "wp"
 have hgg:=h.gg
 cases g with
 | nil=>
  refine zt (zbU h) ?_
  unfold rlD
  rw [Zq,List.append_nil]
  walk_at "wp"
  refine zP (k:=1) rfl ?_
  walk_at "wp"
  rw [List.drop_nil,List.append_nil] at hwl ⊢
  exact ⟨zE (by rw [List.length_map]; omega),Zs (i:=0) hwl rfl⟩
 | cons w g=>
  refine zt Qk ?_
  unfold rlD
  rw [xo]
  walk_at "wp"
  refine zP (k:=1) rfl ?_
  walk_at "wp"
  refine zP (k:=1) rfl ?_
  walk_at "wp"
  refine zt (tW _ _) ?_
  rw [Zf]
  walk_at "wp"
  rw [List.map_cons,XI]
  have eg : g.map sD = g.map rt:=by
   have:=hgg.rt
   rw [List.map_cons,List.map_cons] at this
   exact (List.cons.inj this).2.symm
  rw [eg]
  refine yr (by rw [List.length_map,List.length_map]; simp at hgl; omega) ?_
  rw [<- List.map_append]
  walk_at "wp"
  exact ⟨zE (by rw [List.length_map]; rw [List.drop_succ_cons,List.drop_zero] at hlen; omega),Zs (i:=0) hwl rfl⟩
theorem zdM (h : GR vs n ts g bd) (hv : vs.length = 4) : ∃ ds : List D,M_rule_variables [rlD n ts g bd] = some (.fr (.lst ds)) /\ ds.length <= 4:=by
 obtain ⟨us,e1,l1,s1⟩:=zdL h
 obtain ⟨ws,e2,l2,s2⟩:=zdK h
 suffices Op (M_rule_variables [rlD n ts g bd]) fun r=>∃ ds : List D,r = .fr (.lst ds) /\ ds.length <= 4 by
  obtain ⟨r,e,ds,rfl,h1⟩:=this
  exact ⟨ds,e,h1⟩
 unfold M_rule_variables xw
 walk_at "wrun"
 walk_at "wp"
 refine Zr (zs:=(us++ws).map S) ?_ (by rw [List.length_map,List.length_append]; omega) ⟨_,rfl,?_⟩
 ·refine Op.eq ?_
  walk_at "wp"
  refine zt e1 ?_
  unfold rlD
  walk_at "wp"
  refine zP (k:=2) rfl ?_
  walk_at "wp"
  refine zt e2 ?_
  walk_at "wp"
  refine zt (d:=.lst (us.map sD++ws.map sD)) ?_ (by rw [<- List.map_append,JU])
  simp [addD,iAdd,sAdd,tupAdd,lAdd]
  exact zE (by omega)
 ·rw [List.length_map]
  have:=V8 (vs.map S) (wj ((us++ws).map S)) (tK (tI _)) fun z hz=>by
   obtain ⟨u,hu,rfl⟩:=List.mem_map.mp (vm.mp hz)
   exact List.mem_map_of_mem ((List.mem_append.mp hu).elim (s1 u) (s2 u))
  rw [List.length_map] at this
  omega
theorem XT (h : GR vs n ts g bd) (hv : vs.length = 4) : M_read_rule [sD (jB (wsR n ts g bd))] = some (.sh (rlD n ts g bd)):=by
 have P:=zby h.tx
 rw [h.prs,h.bp] at P
 obtain ⟨ds,e,hl⟩:=zdM h hv
 rw [<- h.rD] at e
 have r:=Tg P h.okR e
 rw [decide_eq_true hl] at r
 have:=zcU h.tx (by rw [h.prs,h.bp]; exact r)
 rw [h.prs,h.bp,h.rD] at this
 exact this
end
theorem Ub {z : Str} {R : D->Prop} (k : R (.bl true)) : Op (eqO false (.str z) (.str z)) R:=by
 have:=eqS (v:=z.cps.toList) (w:=z.cps.toList) (R:=R) (by simpa using k)
 exact this
theorem zbW {a b : Bool} {R : D->Prop} (k : R (.bl (decide (a = b)))) : Op (eqO false (.bl a) (.bl b)) R:=by
 refine zt ?_ k
 cases a <;> cases b <;> rfl
theorem xM {k : Nat} {z : Str} : zJ (k + 1) [.str z,.str z] = some (.sh (.bl true)):=by
 apply Op.eq
 unfold zJ xh
 walk_at "wrun"
 walk_at "wp"
 refine ⟨rfl,?_⟩
 walk_at "wp"
 refine ⟨rfl,?_⟩
 walk_at "wp"
 refine Ub ?_
 walk_at "wp"
 refine ⟨rfl,?_⟩
 walk_at "wp"
 refine ⟨rfl,?_⟩
 refine zbW ?_
 rfl
theorem To {k : Nat} {z : Int} : zJ (k + 1) [.int z,.int z] = some (.sh (.bl true)):=by
 apply Op.eq
 unfold zJ xh
 walk_at "wrun"
 walk_at "wp"
 refine ⟨rfl,?_⟩
 walk_at "wp"
 refine ⟨rfl,?_⟩
 walk_at "wp"
 rw [decide_eq_true rfl]
 walk_at "wp"
 refine ⟨rfl,?_⟩
 walk_at "wp"
 refine ⟨rfl,?_⟩
 refine zbW ?_
 rfl
theorem xk {k : Nat} {ds : List D} (hl : ds.length <= 10000) (h : ∀ d ∈ ds,zJ k [d,d] = some (.sh (.bl true))) : zJ (k + 1) [.tup ds,.tup ds] = some (.sh (.bl true)):=by
 apply Op.eq
 unfold zJ xh
 walk_at "wrun"
 walk_at "wp"
 refine ⟨rfl,?_⟩
 walk_at "wp"
 refine ⟨rfl,?_⟩
 walk_at "wp"
 try refine o_neEI ?_
 try rw [decide_eq_true rfl]
 walk_at "wp"
 refine ⟨by omega,?_⟩
 rw [Int.toNat_natCast]
 refine ⟨by rw [vZ]; exact zE hl,?_⟩
 rw [jr]
 refine uQ (k:=fun j : Nat=>D.int (j : Int)) (p:=fun _=>false) (hh:=fun j : Nat=>D.int (j : Int)) (fun j hj=>?_) (fun j _ hp=>by cases hp) ?_
 ·have hj:=List.mem_range.mp hj
  walk_at "wp"
  refine zP (List.getElem?_eq_getElem hj) ?_
  walk_at "wp"
  refine zP (List.getElem?_eq_getElem hj) ?_
  walk_at "wp"
  refine zt (h _ (List.getElem_mem hj)) ?_
  walk_at "wp"
  rfl
 ·rw [show (List.range ds.length).filter (fun _=>false) = [] from List.filter_eq_nil_iff.mpr (by simp)]
  walk_at "wp"
  refine ⟨Nat.zero_le _,?_⟩
  walk_at "wp"
  refine zt (d:=.bl true) rfl ?_
  rfl
theorem jH {k : Nat} {w : W} : zJ (k + 1) [rt w,rt w] = some (.sh (.bl true)):=by
 unfold rt
 split
 ·exact To
 ·exact xM
theorem Y9 {k : Nat} {ws : List W} (hl : ws.length <= 10000) : zJ (k + 2) [.tup (ws.map rt),.tup (ws.map rt)] = some (.sh (.bl true)):=
 xk (by rw [List.length_map]; exact hl) fun d hd=>by obtain ⟨w,_,rfl⟩:=List.mem_map.mp hd; exact jH
theorem Uc {w : W} {ws : List W} (hl : ws.length <= 4) : M__law_same [fD (w::ws),fD (w::ws)] = some (.sh (.bl true)):=by
 show zJ 6 [.tup [sD w,.tup (ws.map rt)],.tup [sD w,.tup (ws.map rt)]] = _
 refine xk (by simp) fun d hd=>?_
 rcases List.mem_cons.mp hd with rfl | hd
 ·exact xM
 ·rw [List.mem_singleton] at hd; subst hd; exact Y9 (by omega)
theorem Tp {vs p : List W} {y : Bool} (h : GL vs p y) : zJ 4 [lD p,lD p] = some (.sh (.bl true)):=by
 have pr : ∀ (k n : W) (ts : List W),ts.length <= 4->zJ 4 [.tup [sD k,sD n,.tup (ts.map rt)],.tup [sD k,sD n,.tup (ts.map rt)]] = some (.sh (.bl true)):=fun k n ts hl=>by
  refine xk (by simp) fun d hd=>?_
  rcases List.mem_cons.mp hd with rfl | hd
  ·exact xM
  ·rcases List.mem_cons.mp hd with rfl | hd
   ·exact xM
   ·rw [List.mem_singleton] at hd; subst hd; exact Y9 (by omega)
 cases h with
 | yes hn hl ht=>rw [Zm hn]; exact pr _ _ _ hl
 | no hn hl ht=>rw [VV]; exact pr _ _ _ hl
 | cmp hk ha hb=>
  rw [Zn hk]
  refine xk (by simp) fun d hd=>?_
  rcases List.mem_cons.mp hd with rfl | hd
  ·exact xM
  ·rcases List.mem_cons.mp hd with rfl | hd
   ·exact jH
   ·rw [List.mem_singleton] at hd; subst hd; exact jH
theorem Ud {vs : List W} {n : W} {ts g : List W} {bd : List (List W)} (h : GR vs n ts g bd) : M__law_same [rlD n ts g bd,rlD n ts g bd] = some (.sh (.bl true)):=by
 have hgl:=h.gl
 have hb6:=h.b6
 show zJ 6 [.tup [sD n,.tup (ts.map rt++gD g),.tup (bd.map lD)],.tup [sD n,.tup (ts.map rt++gD g),.tup (bd.map lD)]] = _
 refine xk (by simp) fun d hd=>?_
 rcases List.mem_cons.mp hd with rfl | hd
 ·exact xM
 ·rcases List.mem_cons.mp hd with rfl | hd
  ·refine xk (by rw [List.length_append,List.length_map]; omega) fun d hd=>?_
   rcases List.mem_append.mp hd with hd | hd
   ·obtain ⟨w,_,rfl⟩:=List.mem_map.mp hd; exact jH
   ·cases g with
    | nil=>rw [Zq] at hd; cases hd
    | cons w g=>
     rw [xo,List.mem_singleton] at hd
     subst hd
     refine xk (by have:=h.gg.len; rw [List.length_map]; omega) fun d hd=>?_
     obtain ⟨w,_,rfl⟩:=List.mem_map.mp hd; exact xM
  ·rw [List.mem_singleton] at hd
   subst hd
   refine xk (by rw [List.length_map]; omega) fun d hd=>?_
   obtain ⟨p,hp,rfl⟩:=List.mem_map.mp hd
   obtain ⟨y,gl⟩:=h.bl p hp
   exact Tp gl
def zbX : List W:=[[117,110,100,101,114,97,103,101],[117,110,108,105,107,101,108,121],[110,111,116,104,105,110,103],[105,102,102,121],[115,117,109,109,101,114],[108,101,97,115,116,101,114],[99,111,117,110,116,115],[110,111,116,101,115]]
theorem JV : ([.str "underage",.str "unlikely",.str "nothing",.str "iffy",.str "summer",.str "leaster",.str "counts",.str "notes"] : List D) = zbX.map sD:=by kernel_rfl
theorem JW : ∀ w ∈ zbX,nmB w = true:=by decide
theorem zbY {i : Int} {R : D->Prop} (h0 : 0 <= i) (h1 : i < 8) (k : ∀ w,nmB w = true->R (sD w)) : Op (ixA (.lst (zbX.map sD)) (.int i)) R:=
 v8 h0 (by show i < 8; exact h1) fun d hd=>by obtain ⟨w,hw,rfl⟩:=List.mem_map.mp hd; exact k w (JW w hw)
theorem Qm {zs : List W} (hz : zs.length = 5) (hn : ∀ z ∈ zs,nmB z = true) {w : W} (hw : nmB w = true) (j : Nat) : (zs.set j w).length = 5 /\ ∀ z ∈ zs.set j w,nmB z = true:=
 ⟨by rw [List.length_set]; exact hz,fun z h=>(List.mem_or_eq_of_mem_set h).elim (hn z) fun e=>e ▸ hw⟩
theorem Tq (ns : List Int) (h : ns.length <= 63) : Vq [.lst (ns.map D.int)] = some (.sh (.bl true)):=by
 obtain ⟨_,e0,c0,rfl⟩:=Vw ns 0 h (by decide)
 obtain ⟨_,e1,c1,rfl⟩:=Vw ns 1 h (by decide)
 obtain ⟨_,eN,zs,rfl,hz,hnm⟩:=JI c0 5 (by decide)
 obtain ⟨_,eV,vs,rfl,hvl,hvr⟩:=zbH c1
 refine Op.eq ?_
 unfold Vq TY
 walk_at "wrun"
 walk_at "wp"
 refine zt e0 ?_
 walk_at "wp"
 refine zt eN ?_
 walk_at "wp"
 refine zt e1 ?_
 walk_at "wp"
 refine ⟨zE (show 8 <= 10000 by decide),?_⟩
 rw [JV]
 walk_at "wpn"
 refine qm (fun δ=>∃ zs : List W,δ = [some (.sh (.lst (ns.map D.int))),some (.pv (.lst (zs.map sD)) none),some (.sh (.int (c1 / 512))),some (.sh (.lst (zbX.map sD))),none,none,none,none,none,none] /\ zs.length = 5 /\ ∀ z ∈ zs,nmB z = true) ?_ ?_
 ·refine so_if ?_
  walk_at "wp"
  refine xj (fun _=>?_) fun _=>?_
  ·walk_at "wp"
   refine zbY (Int.emod_nonneg _ (by decide)) (Int.emod_lt_of_pos _ (by decide)) fun w hw=>?_
   obtain ⟨hz1,hn1⟩:=Qm hz hnm hw 1
   walk_at "wp"
   refine ⟨1,1,rfl,by rw [List.length_map,hz]; rfl,?_⟩
   rw [<- List.map_set]
   walk_at "wp"
   refine zbY (Int.emod_nonneg _ (by decide)) (Int.emod_lt_of_pos _ (by decide)) fun w2 hw2=>?_
   obtain ⟨hz2,hn2⟩:=Qm hz1 hn1 hw2 3
   walk_at "wp"
   refine ⟨3,3,rfl,by rw [List.length_map,hz1]; rfl,?_⟩
   rw [<- List.map_set]
   walk_at "wp"
   exact ⟨_,rfl,hz2,hn2⟩
  ·walk_at "wp"
   exact ⟨zs,rfl,hz,hnm⟩
 ·clear hz hnm eN
  rintro δ ⟨zs,rfl,hz,hnm⟩
  have K : Nv zs vs:=⟨hz,hnm,hvl,hvr⟩
  walk_at "wp"
  refine zt e1 ?_
  walk_at "wp"
  refine zt eV ?_
  walk_at "wp"
  rw [List.length_map]
  obtain ⟨L,eL,hL⟩ : ∃ L : Nat,(if (if (ns.length : Int) < 22 then (ns.length : Int) else 22) > 6 then (if (ns.length : Int) < 22 then (ns.length : Int) else 22) else 6) = (L : Int) /\ L <= 22:=by
   refine ⟨(if (if (ns.length : Int) < 22 then (ns.length : Int) else 22) > 6 then (if (ns.length : Int) < 22 then (ns.length : Int) else 22) else 6).toNat,?_,?_⟩
   ·split <;> split <;> omega
   ·split <;> split <;> omega
  rw [eL]
  refine ⟨by omega,?_⟩
  refine xH (fun _ δ=>∃ x1 x5 x6 x7 x8 x9 : Option Sl,δ = [some (.sh (.lst (ns.map D.int))),x1,some (.sh (.int (c1 / 512))),some (.sh (.lst (zbX.map sD))),some (.sh (wsD vs)),x5,x6,x7,x8,x9] /\ (x1 = some (.pv (.lst (zs.map sD)) none) \/ x1 = some (.sh (wsD zs)))) ⟨_,none,none,none,none,none,rfl,.inl rfl⟩ ?_ ?_
  ·rintro k x hx δ ⟨x1,x5,x6,x7,x8,x9,rfl,hx1⟩
   obtain ⟨j,hj,rfl⟩:=VT (List.mem_of_getElem? hx)
   rw [show (2 + (j : Int)) = ((2 + j : Nat) : Int) by omega]
   have hj22 : 2 + j <= 63:=by omega
   dsimp only [List.set]
   obtain ⟨_,ec,c,rfl⟩:=Vw ns (2 + j) h hj22
   obtain ⟨_,eF,w,ws,rfl,hw,hwl,hws⟩:=VU c hz hnm
   obtain ⟨_,eR,n,ts,g,bd,rfl,gr⟩:=VW c K
   have hp : ∀ a b c d e f g h : Option Sl,TH 1 [some (.sh (.lst (ns.map D.int))),x1,a,b,c,d,e,f,g,h] = [some (.sh (.lst (ns.map D.int))),some (.sh (wsD zs)),a,b,c,d,e,f,g,h]:=by
    rcases hx1 with rfl | rfl <;> intros <;> rfl
   refine so_seq ?_
   show So (yu 6 _ (TH 1 _)) _ _
   rw [hp]
   walk_at "wp"
   refine zt ec ?_
   walk_at "wp"
   refine zt eF ?_
   walk_at "wp"
   show Op (ixA (.tup [sD w,.tup (ws.map rt)]) (.int 0)) _
   refine zP (k:=0) rfl ?_
   walk_at "wp"
   refine ⟨zE (show 1 <= 10000 by decide),?_⟩
   walk_at "wp"
   refine zP (k:=1) rfl ?_
   refine yr (by rw [List.length_map]; simp; omega) ?_
   walk_at "wp"
   refine zt (jE hw hwl hws) ?_
   walk_at "wp"
   refine zt (XO hw hwl hws) ?_
   walk_at "wp"
   refine ⟨rfl,?_⟩
   walk_at "wp"
   refine neS ?_
   rw [decide_eq_true rfl]
   walk_at "wp"
   refine zt (XQ hw hwl hws) ?_
   walk_at "wp"
   refine zt (Uc hwl) ?_
   walk_at "wp"
   have hp2 : ∀ a0 a b c d e f g h : Option Sl,TH 1 [a0,some (.sh (wsD zs)),a,b,c,d,e,f,g,h] = [a0,some (.sh (wsD zs)),a,b,c,d,e,f,g,h]:=by
    intros; rfl
   rw [hp2]
   refine zt ec ?_
   walk_at "wp"
   refine zt eR ?_
   walk_at "wp"
   show Op (ixA (.tup [sD n,.tup (ts.map rt++gD g),.tup (bd.map lD)]) (.int 0)) _
   refine zP (k:=0) rfl ?_
   walk_at "wp"
   refine ⟨zE (show 1 <= 10000 by decide),?_⟩
   walk_at "wp"
   refine zP (k:=1) rfl ?_
   have hgl:=gr.gl
   refine yr (by rw [List.length_append,List.length_map]; simp; omega) ?_
   walk_at "wp"
   refine zt (V9 gr) ?_
   walk_at "wp"
   rw [zb8]
   have hb:=Y7 gr
   have hh:=Y8 gr
   have h4 : yIf.length = 4:=rfl
   refine jw (by omega) ?_
   walk_at "wp"
   show Op (ixA (.tup [sD n,.tup (ts.map rt++gD g),.tup (bd.map lD)]) (.int 2)) _
   refine zP (k:=2) rfl ?_
   walk_at "wp"
   refine ⟨zE (by have:=gr.b6; rw [List.length_map]; omega),yz (k:=lD) (hh:=fun p=>sD (jB p)) (fun p hp=>?_) ?_⟩
   ·obtain ⟨y,gl⟩:=gr.bl p hp
    walk_at "wp"
    exact zt (Tl gl) rfl
   ·walk_at "wp"
    refine qM gr ?_
    refine jw (by rw [List.length_append]; omega) ?_
    rw [show jB (hdW n ts g)++yIf++jG [44,32] (bd.map jB) = jB (wsR n ts g bd) by rw [gr.text,List.append_assoc]]
    walk_at "wp"
    refine zt (XS gr) ?_
    walk_at "wp"
    refine ⟨rfl,?_⟩
    walk_at "wp"
    refine neS ?_
    rw [decide_eq_true rfl]
    walk_at "wp"
    refine zt (XT gr hvl) ?_
    walk_at "wp"
    refine zt (Ud gr) ?_
    walk_at "wp"
    exact ⟨_,_,_,_,_,_,rfl,.inr rfl⟩
  ·rintro δ ⟨x1,x5,x6,x7,x8,x9,rfl,hx1⟩
   walk_at "wp"
   rfl
theorem zbZ {P : Program} {w : World} {K : PySem.W.Frag} {mg : Str->Option Value} {base : Heap} (T : Txt K mg) {f : Addr} {fd : FuncData} (F : Fun K "law" "law" (top 60) f fd) : FnOk P w K mg base CX0 10 f fd ["_law_script"] (spD K Vq):=by
 have ok_is_whole:=ZW (P:=P) (w:=w) (base:=base) T
 have ok_is_small:=ZX (P:=P) (w:=w) (base:=base) T
 have ok_is_big:=Vr (P:=P) (w:=w) (base:=base) T
 have ok_is_figure:=kQ (P:=P) (w:=w) (base:=base) T
 have ok_is_short_text:=uC (P:=P) (w:=w) (base:=base) T
 have ok_is_name:=XB (P:=P) (w:=w) (base:=base) T ok_is_short_text ok_is_small
 have ok_is_constant:=t6 (P:=P) (w:=w) (base:=base) T ok_is_name ok_is_whole
 have ok_is_variable:=t7 (P:=P) (w:=w) (base:=base) T ok_is_big ok_is_figure ok_is_short_text ok_is_small
 have ok_is_term:=XC (P:=P) (w:=w) (base:=base) T ok_is_constant ok_is_variable
 have ok_is_fact:=XD (P:=P) (w:=w) (base:=base) T ok_is_constant ok_is_name
 have ok_are_terms:=kS (P:=P) (w:=w) (base:=base) T ok_is_term
 have ok_is_literal:=jj (P:=P) (w:=w) (base:=base) T ok_are_terms ok_is_name ok_is_term
 have ok_is_grouping:=t8 (P:=P) (w:=w) (base:=base) T ok_is_variable
 have ok_are_head_terms:=vS (P:=P) (w:=w) (base:=base) T ok_are_terms ok_is_grouping
 have ok_is_body:=XE (P:=P) (w:=w) (base:=base) T ok_is_literal
 have ok_has_predicate:=uD (P:=P) (w:=w) (base:=base) T
 have ok_literal_variables:=wG (P:=P) (w:=w) (base:=base) T ok_has_predicate ok_is_variable
 have ok_body_variables:=vT (P:=P) (w:=w) (base:=base) T ok_literal_variables
 have ok_is_group:=ZY (P:=P) (w:=w) (base:=base) T
 have ok_head_variables:=vU (P:=P) (w:=w) (base:=base) T ok_is_group ok_is_variable
 have ok_rule_variables:=vV (P:=P) (w:=w) (base:=base) T ok_body_variables ok_head_variables
 have ok_is_rule:=XF (P:=P) (w:=w) (base:=base) T ok_are_head_terms ok_is_body ok_is_name ok_rule_variables
 have ok_words_text:=jk (P:=P) (w:=w) (base:=base) T
 have ok_fact_text:=kT (P:=P) (w:=w) (base:=base) T ok_words_text
 have ok_head_words:=jl (P:=P) (w:=w) (base:=base) T ok_is_group
 have ok_literal_words:=uE (P:=P) (w:=w) (base:=base) T ok_has_predicate
 have ok_rule_text:=kU (P:=P) (w:=w) (base:=base) T ok_head_words ok_literal_words ok_words_text
 have ok_is_numeral:=jm (P:=P) (w:=w) (base:=base) T ok_is_figure
 have ok_read_terms:=jn (P:=P) (w:=w) (base:=base) T ok_is_numeral
 have ok_read_fact:=kW (P:=P) (w:=w) (base:=base) T ok_is_fact ok_read_terms
 have ok_read_literal:=tR (P:=P) (w:=w) (base:=base) T ok_read_terms
 have ok_read_head_terms:=vC (P:=P) (w:=w) (base:=base) T ok_read_terms
 have ok_read_rule:=kX (P:=P) (w:=w) (base:=base) T ok_is_rule ok_read_head_terms ok_read_literal
 have ok__law_cell:=kY (P:=P) (w:=w) (base:=base) T
 have ok__law_stream:=t9 (P:=P) (w:=w) (base:=base) T
 have ok__law_names:=jo (P:=P) (w:=w) (base:=base) T ok__law_stream
 have ok__law_variables:=vW (P:=P) (w:=w) (base:=base) T ok__law_stream
 have ok__law_constant:=uF (P:=P) (w:=w) (base:=base) T
 have ok__law_fact:=kZ (P:=P) (w:=w) (base:=base) T ok__law_constant ok__law_stream
 have ok__law_term:=Za (P:=P) (w:=w) (base:=base) T ok__law_constant
 have ok__law_literal:=tS (P:=P) (w:=w) (base:=base) T ok__law_term
 have ok__law_rule:=Zb (P:=P) (w:=w) (base:=base) T ok__law_literal ok__law_stream ok__law_term
 have ok__law_words:=jp (P:=P) (w:=w) (base:=base) T
 have ok__law_literal_text:=wH (P:=P) (w:=w) (base:=base) T ok__law_words
 have ok__law_same:=Zc (P:=P) (w:=w) (base:=base) T
 exact zba T F ok__law_cell ok__law_fact ok__law_literal_text ok__law_names ok__law_rule ok__law_same ok__law_variables ok__law_words ok_fact_text ok_read_fact ok_read_rule ok_rule_text
theorem walk {l : PySem.W.OpenLaw} {q : Program} {loose : List Str} {XP : (Str->Option Value)->Heap->Prop} {YP : World->Heap->Prop} {d : DefRec} {K : Params->PySem.W.Frag} (hn : l.most = some 63) (hdf : d.params.defaults = []) (hnm : d.name = "law")
  (hY : ∀ (w : World) (h : Heap),YP w h->(K w.params).In h)
  (F : ∀ (w : World) (mg : Str->Option Value) (h : Heap),(K w.params).In h->h.Ns mainGlobals mg->Txt (K w.params) mg) :
  PySem.W.WalkO q loose XP YP l.row.toRowW d [] (fun f vs=>PySem.call f vs):=
 L2.walk_ofK (n:=63) (k:=10) (x:="_law_script") (CX:=CX0) (sp:=fun K=>spD K Vq) hn (by decide) hdf ⟨rfl,by decide,by decide⟩ hY
  (fun w mg fa h KX G hm=>zaM (by rw [<- hnm]; exact hm) (F w mg h KX G).d_law (fun _ _ _ _ _ _ _=>rfl) fun f fd base Fn=>zbZ (F w mg h KX G) Fn)
  (fun K H a ns hl _ hS=>zaN hS (Tq ns hl)) fun _ _ _ _ z=>z
end K41
namespace L2
open PySem PySem.W PyProof.Rows PySem.Calls
theorem leftO_once {p q : Program} {loose : List Str} {Xt : Shared->Bool} {α : Type} {Yf : Shared->α} {Ya : World->α} {N : Nat} (e : opening p = plainProg p.main.scope.names) (hN : Nat.ble 600 N = true) (f : ∀ s,fenceModules? p s = some s)
  (h : ∀ w os,(topFrom treeTable p w N ⟨boot_heap w.params,Array.mk [],boot_drawn,boot_toks,os⟩).map (fun s=>(openSeen q loose (importedModules p.main.body) Xt true s,Yf s)) = some (openGood q loose,Ya w)) : LeftO p q loose Xt Yf Ya N:=fun w=>by
 obtain ⟨⟨hp,gs,d,k,os⟩,e1,e'⟩:=omE (boot_open e hN f w)
 obtain ⟨rfl,rfl,rfl,rfl⟩ : hp = boot_heap w.params /\ gs = Array.mk [] /\ d = boot_drawn /\ k = boot_toks:=by simpa using e'
 unfold openEnds
 rw [e1]
 exact h w os
end L2
open PySem PySem.W PyProof.Rows L2
noncomputable def PySem.W.Fast.tw16294959786857021371 : Program:=PySem.Challenge.pw_reason_k41_texts
theorem PySem.W.Fast.te16294959786857021371 : PySem.Challenge.pw_reason_k41_texts = PySem.W.Fast.tw16294959786857021371:=rfl
namespace K41
open PySem PySem.W PyProof.Rows L2
abbrev so:=Str.ofString
abbrev kF (x : String) (st : Stmt) (m : String) (i : Nat) (c : Addr) : Obj:={ cls:=.type "function",data:=.func { name:=so x,qualname:=so x,params:=xl st,body:=.stmts (yB st),scope:=zk st,globals:=3,closure:=[],defaults:=.none,kwdefaults:=.none,pyModule:=.str (so m) i,code:=.ref c } }
abbrev kC (x : String) (i j k : Nat) (l n v : Int) (a : Addr) (z : Int) (b c d e : Addr) (h : Int) (y : Nat) : Obj:={ cls:=.type "code",data:=.fields #[.str (so x) i,.str (so x) j,.str (so "/claim/cut.py") k,.int l 0,.int n 0,.int 0 0,.int 0 0,.int v 0,.ref a,.bool true,.int z 0,.ref b,.none,.ref c,.ref d,.ref e,.int h 0,.int l 0,.str (so "/claim/cut.py") y] }
abbrev kE (P : Params) (x : String) (i : Nat) (v : Value) : DictEntry:={ hash:=PyData.keyHash P (so x),key:=.str (so x) i,val:=v }
abbrev kR (P : Params) (x : String) (i : Nat) (a : Addr) : DictEntry:=kE P x i (.ref a)
set_option maxRecDepth 100000
noncomputable def KF (P : Params) : Frag:=
(nat_lit 2,{ cls:=.none,data:=Data.dict #[] })::
(nat_lit 3,{ cls:=.type "dict",data:=Data.dict #[kE P "__name__" 165 (.str (so "law_reason_k41_texts") 475),kE P "__doc__" 166 (.none),kE P "__package__" 167 (.none),kE P "__loader__" 168 (.builtin "__main__.__loader__#opaque"),kE P "__spec__" 169 (.none),kR P "__annotations__" 170 6,kR P "__builtins__" 171 4,kE P "__file__" 173 (.str (so "/claim/cut.py") 172),kE P "__cached__" 174 (.none),kR P "ReasonError" 206 24,kR P "NoText" 222 37,kE P "LONGEST" 226 (.int 8 225),kE P "MOST_PLACES" 228 (.int 4 227),kR P "WORDS" 236 40,kR P "is_whole" 243 47,kR P "is_small" 250 54,kR P "is_big" 257 61,kR P "is_figure" 264 68,kR P "is_short_text" 271 75,kR P "is_name" 277 80,kR P "is_constant" 284 87,kR P "is_variable" 290 92,kR P "is_term" 297 99,kR P "is_fact" 303 104,kE P "MOST_LITERALS" 307 (.int 6 306),kE P "MOST_YES" 309 (.int 4 308),kE P "MOST_VARIABLES" 311 (.int 4 310),kR P "are_terms" 317 109,kR P "is_literal" 324 116,kR P "is_grouping" 331 123,kR P "are_head_terms" 338 130,kR P "is_body" 344 135,kR P "is_rule" 351 142,kR P "is_group" 358 149,kR P "has_predicate" 365 156,kR P "literal_variables" 371 161,kR P "head_variables" 377 166,kR P "body_variables" 386 173,kR P "rule_variables" 393 180,kE P "MOST_FIGURES" 397 (.int 30 396),kR P "words_text" 403 185,kR P "fact_text" 410 192,kR P "head_words" 418 199,kR P "literal_words" 426 206,kR P "rule_text" 432 211,kR P "is_numeral" 438 216,kR P "read_terms" 444 221,kR P "read_fact" 453 228,kR P "read_literal" 461 235,kR P "read_head_terms" 468 242,kR P "read_rule" 474 247,kR P "_law_cell" 485 254,kR P "_law_stream" 496 261,kR P "_law_names" 502 266,kR P "_law_constants" 515 273,kR P "_law_variables" 531 280,kR P "_law_constant" 542 287,kR P "_law_fact" 548 292,kR P "_law_term" 557 299,kR P "_law_literal" 563 304,kR P "_law_rule" 569 309,kR P "_law_words" 578 316,kR P "_law_literal_text" 585 323,kR P "_law_same" 591 328,kR P "law" 597 333] 65 })::
(nat_lit 23,{ cls:=.type "dict",data:=Data.dict #[kE P "__module__" 196 (.str (so "reason.errors") 187),kE P "__firstlineno__" 200 (.int 2 199),kR P "__static_attributes__" 201 22,kR P "__weakref__" 203 25,kE P "__doc__" 204 (.none)] 3 })::
(nat_lit 24,{ cls:=.type "type",data:=Data.cls { name:=so "ReasonError",bases:=[.type "ValueError"],mro:=[.ref 24,.type "ValueError",.type "Exception",.type "BaseException",.type "object"],ns:=23,qualname:=so "ReasonError",subclasses:=[.ref 37] },slots:=#[some (.ref 15),none,some (.str (so "ReasonError") 189),some (.str (so "ReasonError") 197),some (.builtin "ValueError.__new__"),some (.bool true)] })::
(nat_lit 25,{ cls:=.type "getset_descriptor",data:=Data.fields #[.str (so "__weakref__") 202,.ref 24,.builtin "ExceptionGroup.__weakref__",.none] })::
(nat_lit 36,{ cls:=.type "dict",data:=Data.dict #[kE P "__module__" 214 (.str (so "reason.errors") 187),kE P "__firstlineno__" 218 (.int 4 217),kR P "__static_attributes__" 219 35,kE P "__doc__" 220 (.none)] 2 })::
(nat_lit 37,{ cls:=.type "type",data:=Data.cls { name:=so "NoText",bases:=[.ref 24],mro:=[.ref 37,.ref 24,.type "ValueError",.type "Exception",.type "BaseException",.type "object"],ns:=36,qualname:=so "NoText" },slots:=#[some (.ref 28),none,some (.str (so "NoText") 207),some (.str (so "NoText") 215),some (.builtin "ValueError.__new__"),some (.bool true)] })::
(nat_lit 40,{ cls:=.type "tuple",data:=Data.seq #[.str (so "not") 229,.str (so "if") 230,.str (so "under") 231,.str (so "unlike") 232,.str (so "sum") 233,.str (so "least") 234,.str (so "count") 235] })::
(nat_lit 46,kC "is_whole" 237 238 239 10 1 3 41 181 42 43 44 45 241 242)::
(nat_lit 47,kF "is_whole" (top 7) "reason.terms" 223 46)::
(nat_lit 53,kC "is_small" 244 245 246 12 1 3 48 181 49 50 51 52 248 249)::
(nat_lit 54,kF "is_small" (top 8) "reason.terms" 223 53)::
(nat_lit 60,kC "is_big" 251 252 253 14 1 3 55 181 56 57 58 59 255 256)::
(nat_lit 61,kF "is_big" (top 9) "reason.terms" 223 60)::
(nat_lit 67,kC "is_figure" 258 259 260 16 1 3 62 181 63 64 65 66 262 263)::
(nat_lit 68,kF "is_figure" (top 10) "reason.terms" 223 67)::
(nat_lit 74,kC "is_short_text" 265 266 267 18 1 3 69 181 70 71 72 73 269 270)::
(nat_lit 75,kF "is_short_text" (top 11) "reason.terms" 223 74)::
(nat_lit 79,{ cls:=.type "code",data:=Data.fields #[.str (so "is_name") 272,.str (so "is_name") 273,.str (so "/claim/cut.py") 274,.int 20 0,.int 1 0,.int 0 0,.int 0 0,.int 3 0,.ref 76,.bool true,.int 181 0,.ref 77,.none,.none,.none,.ref 78,.int 275 0,.int 20 0,.str (so "/claim/cut.py") 276] })::
(nat_lit 80,kF "is_name" (top 12) "reason.terms" 223 79)::
(nat_lit 86,kC "is_constant" 278 279 280 24 1 3 81 181 82 83 84 85 282 283)::
(nat_lit 87,kF "is_constant" (top 13) "reason.terms" 223 86)::
(nat_lit 91,{ cls:=.type "code",data:=Data.fields #[.str (so "is_variable") 285,.str (so "is_variable") 286,.str (so "/claim/cut.py") 287,.int 26 0,.int 1 0,.int 0 0,.int 0 0,.int 3 0,.ref 88,.bool true,.int 181 0,.ref 89,.none,.none,.none,.ref 90,.int 288 0,.int 26 0,.str (so "/claim/cut.py") 289] })::
(nat_lit 92,kF "is_variable" (top 14) "reason.terms" 223 91)::
(nat_lit 98,kC "is_term" 291 292 293 30 1 3 93 181 94 95 96 97 295 296)::
(nat_lit 99,kF "is_term" (top 15) "reason.terms" 223 98)::
(nat_lit 103,{ cls:=.type "code",data:=Data.fields #[.str (so "is_fact") 298,.str (so "is_fact") 299,.str (so "/claim/cut.py") 300,.int 32 0,.int 1 0,.int 0 0,.int 0 0,.int 3 0,.ref 100,.bool true,.int 181 0,.ref 101,.none,.none,.none,.ref 102,.int 301 0,.int 32 0,.str (so "/claim/cut.py") 302] })::
(nat_lit 104,kF "is_fact" (top 16) "reason.terms" 223 103)::
(nat_lit 108,{ cls:=.type "code",data:=Data.fields #[.str (so "are_terms") 312,.str (so "are_terms") 313,.str (so "/claim/cut.py") 314,.int 43 0,.int 1 0,.int 0 0,.int 0 0,.int 3 0,.ref 105,.bool true,.int 181 0,.ref 106,.none,.none,.none,.ref 107,.int 315 0,.int 43 0,.str (so "/claim/cut.py") 316] })::
(nat_lit 109,kF "are_terms" (top 21) "reason.rules" 304 108)::
(nat_lit 115,kC "is_literal" 318 319 320 47 1 3 110 181 111 112 113 114 322 323)::
(nat_lit 116,kF "is_literal" (top 22) "reason.rules" 304 115)::
(nat_lit 122,kC "is_grouping" 325 326 327 53 1 3 117 181 118 119 120 121 329 330)::
(nat_lit 123,kF "is_grouping" (top 23) "reason.rules" 304 122)::
(nat_lit 129,kC "are_head_terms" 332 333 334 59 1 3 124 181 125 126 127 128 336 337)::
(nat_lit 130,kF "are_head_terms" (top 24) "reason.rules" 304 129)::
(nat_lit 134,{ cls:=.type "code",data:=Data.fields #[.str (so "is_body") 339,.str (so "is_body") 340,.str (so "/claim/cut.py") 341,.int 65 0,.int 1 0,.int 0 0,.int 0 0,.int 3 0,.ref 131,.bool true,.int 181 0,.ref 132,.none,.none,.none,.ref 133,.int 342 0,.int 65 0,.str (so "/claim/cut.py") 343] })::
(nat_lit 135,kF "is_body" (top 25) "reason.rules" 304 134)::
(nat_lit 141,kC "is_rule" 345 346 347 71 1 3 136 181 137 138 139 140 349 350)::
(nat_lit 142,kF "is_rule" (top 26) "reason.rules" 304 141)::
(nat_lit 148,kC "is_group" 352 353 354 77 1 3 143 181 144 145 146 147 356 357)::
(nat_lit 149,kF "is_group" (top 27) "reason.rules" 304 148)::
(nat_lit 155,kC "has_predicate" 359 360 361 79 1 3 150 181 151 152 153 154 363 364)::
(nat_lit 156,kF "has_predicate" (top 28) "reason.rules" 304 155)::
(nat_lit 160,{ cls:=.type "code",data:=Data.fields #[.str (so "literal_variables") 366,.str (so "literal_variables") 367,.str (so "/claim/cut.py") 368,.int 81 0,.int 1 0,.int 0 0,.int 0 0,.int 3 0,.ref 157,.bool true,.int 181 0,.ref 158,.none,.none,.none,.ref 159,.int 369 0,.int 81 0,.str (so "/claim/cut.py") 370] })::
(nat_lit 161,kF "literal_variables" (top 29) "reason.rules" 304 160)::
(nat_lit 165,{ cls:=.type "code",data:=Data.fields #[.str (so "head_variables") 372,.str (so "head_variables") 373,.str (so "/claim/cut.py") 374,.int 84 0,.int 1 0,.int 0 0,.int 0 0,.int 3 0,.ref 162,.bool true,.int 181 0,.ref 163,.none,.none,.none,.ref 164,.int 375 0,.int 84 0,.str (so "/claim/cut.py") 376] })::
(nat_lit 166,kF "head_variables" (top 30) "reason.rules" 304 165)::
(nat_lit 172,kC "body_variables" 378 379 380 87 1 3 167 181 168 169 170 171 384 385)::
(nat_lit 173,kF "body_variables" (top 31) "reason.rules" 304 172)::
(nat_lit 179,kC "rule_variables" 387 388 389 92 1 3 174 181 175 176 177 178 391 392)::
(nat_lit 180,kF "rule_variables" (top 32) "reason.rules" 304 179)::
(nat_lit 184,{ cls:=.type "code",data:=Data.fields #[.str (so "words_text") 398,.str (so "words_text") 399,.str (so "/claim/cut.py") 400,.int 96 0,.int 1 0,.int 0 0,.int 0 0,.int 3 0,.ref 181,.bool true,.int 181 0,.ref 182,.none,.none,.none,.ref 183,.int 401 0,.int 96 0,.str (so "/claim/cut.py") 402] })::
(nat_lit 185,kF "words_text" (top 35) "reason.texts" 394 184)::
(nat_lit 191,kC "fact_text" 404 405 406 98 1 3 186 181 187 188 189 190 408 409)::
(nat_lit 192,kF "fact_text" (top 36) "reason.texts" 394 191)::
(nat_lit 198,kC "head_words" 411 412 413 100 1 3 193 181 194 195 196 197 416 417)::
(nat_lit 199,kF "head_words" (top 37) "reason.texts" 394 198)::
(nat_lit 205,kC "literal_words" 419 420 421 103 1 3 200 181 201 202 203 204 424 425)::
(nat_lit 206,kF "literal_words" (top 38) "reason.texts" 394 205)::
(nat_lit 210,{ cls:=.type "code",data:=Data.fields #[.str (so "rule_text") 427,.str (so "rule_text") 428,.str (so "/claim/cut.py") 429,.int 108 0,.int 1 0,.int 0 0,.int 0 0,.int 3 0,.ref 207,.bool true,.int 181 0,.ref 208,.none,.none,.none,.ref 209,.int 430 0,.int 108 0,.str (so "/claim/cut.py") 431] })::
(nat_lit 211,kF "rule_text" (top 39) "reason.texts" 394 210)::
(nat_lit 215,{ cls:=.type "code",data:=Data.fields #[.str (so "is_numeral") 433,.str (so "is_numeral") 434,.str (so "/claim/cut.py") 435,.int 112 0,.int 1 0,.int 0 0,.int 0 0,.int 3 0,.ref 212,.bool true,.int 181 0,.ref 213,.none,.none,.none,.ref 214,.int 436 0,.int 112 0,.str (so "/claim/cut.py") 437] })::
(nat_lit 216,kF "is_numeral" (top 40) "reason.texts" 394 215)::
(nat_lit 220,{ cls:=.type "code",data:=Data.fields #[.str (so "read_terms") 439,.str (so "read_terms") 440,.str (so "/claim/cut.py") 441,.int 117 0,.int 1 0,.int 0 0,.int 0 0,.int 3 0,.ref 217,.bool true,.int 181 0,.ref 218,.none,.none,.none,.ref 219,.int 442 0,.int 117 0,.str (so "/claim/cut.py") 443] })::
(nat_lit 221,kF "read_terms" (top 41) "reason.texts" 394 220)::
(nat_lit 227,kC "read_fact" 445 446 447 119 1 3 222 181 223 224 225 226 451 452)::
(nat_lit 228,kF "read_fact" (top 42) "reason.texts" 394 227)::
(nat_lit 234,kC "read_literal" 454 455 456 125 1 3 229 181 230 231 232 233 459 460)::
(nat_lit 235,kF "read_literal" (top 43) "reason.texts" 394 234)::
(nat_lit 241,kC "read_head_terms" 462 463 464 132 1 3 236 181 237 238 239 240 466 467)::
(nat_lit 242,kF "read_head_terms" (top 44) "reason.texts" 394 241)::
(nat_lit 246,{ cls:=.type "code",data:=Data.fields #[.str (so "read_rule") 469,.str (so "read_rule") 470,.str (so "/claim/cut.py") 471,.int 138 0,.int 1 0,.int 0 0,.int 0 0,.int 3 0,.ref 243,.bool true,.int 181 0,.ref 244,.none,.none,.none,.ref 245,.int 472 0,.int 138 0,.str (so "/claim/cut.py") 473] })::
(nat_lit 247,kF "read_rule" (top 45) "reason.texts" 394 246)::
(nat_lit 253,kC "_law_cell" 477 478 479 147 2 3 248 181 249 250 251 252 483 484)::
(nat_lit 254,kF "_law_cell" (top 47) "law_reason_k41_texts" 475 253)::
(nat_lit 260,kC "_law_stream" 486 487 488 154 2 3 255 181 256 257 258 259 494 495)::
(nat_lit 261,kF "_law_stream" (top 48) "law_reason_k41_texts" 475 260)::
(nat_lit 265,{ cls:=.type "code",data:=Data.fields #[.str (so "_law_names") 497,.str (so "_law_names") 498,.str (so "/claim/cut.py") 499,.int 165 0,.int 2 0,.int 0 0,.int 0 0,.int 3 0,.ref 262,.bool true,.int 181 0,.ref 263,.none,.none,.none,.ref 264,.int 500 0,.int 165 0,.str (so "/claim/cut.py") 501] })::
(nat_lit 266,kF "_law_names" (top 49) "law_reason_k41_texts" 475 265)::
(nat_lit 279,kC "_law_variables" 516 517 518 191 1 3 274 181 275 276 277 278 529 530)::
(nat_lit 280,kF "_law_variables" (top 51) "law_reason_k41_texts" 475 279)::
(nat_lit 286,kC "_law_constant" 532 533 534 204 3 3 281 181 282 283 284 285 540 541)::
(nat_lit 287,kF "_law_constant" (top 52) "law_reason_k41_texts" 475 286)::
(nat_lit 291,{ cls:=.type "code",data:=Data.fields #[.str (so "_law_fact") 543,.str (so "_law_fact") 544,.str (so "/claim/cut.py") 545,.int 212 0,.int 2 0,.int 0 0,.int 0 0,.int 3 0,.ref 288,.bool true,.int 181 0,.ref 289,.none,.none,.none,.ref 290,.int 546 0,.int 212 0,.str (so "/claim/cut.py") 547] })::
(nat_lit 292,kF "_law_fact" (top 53) "law_reason_k41_texts" 475 291)::
(nat_lit 298,kC "_law_term" 549 550 551 216 3 3 293 181 294 295 296 297 555 556)::
(nat_lit 299,kF "_law_term" (top 54) "law_reason_k41_texts" 475 298)::
(nat_lit 303,{ cls:=.type "code",data:=Data.fields #[.str (so "_law_literal") 558,.str (so "_law_literal") 559,.str (so "/claim/cut.py") 560,.int 220 0,.int 4 0,.int 0 0,.int 0 0,.int 3 0,.ref 300,.bool true,.int 181 0,.ref 301,.none,.none,.none,.ref 302,.int 561 0,.int 220 0,.str (so "/claim/cut.py") 562] })::
(nat_lit 304,kF "_law_literal" (top 55) "law_reason_k41_texts" 475 303)::
(nat_lit 308,{ cls:=.type "code",data:=Data.fields #[.str (so "_law_rule") 564,.str (so "_law_rule") 565,.str (so "/claim/cut.py") 566,.int 230 0,.int 3 0,.int 0 0,.int 0 0,.int 3 0,.ref 305,.bool true,.int 181 0,.ref 306,.none,.none,.none,.ref 307,.int 567 0,.int 230 0,.str (so "/claim/cut.py") 568] })::
(nat_lit 309,kF "_law_rule" (top 56) "law_reason_k41_texts" 475 308)::
(nat_lit 315,kC "_law_words" 570 571 572 242 1 3 310 181 311 312 313 314 576 577)::
(nat_lit 316,kF "_law_words" (top 57) "law_reason_k41_texts" 475 315)::
(nat_lit 322,kC "_law_literal_text" 579 580 581 250 1 3 317 181 318 319 320 321 583 584)::
(nat_lit 323,kF "_law_literal_text" (top 58) "law_reason_k41_texts" 475 322)::
(nat_lit 327,{ cls:=.type "code",data:=Data.fields #[.str (so "_law_same") 586,.str (so "_law_same") 587,.str (so "/claim/cut.py") 588,.int 256 0,.int 2 0,.int 0 0,.int 0 0,.int 3 0,.ref 324,.bool true,.int 181 0,.ref 325,.none,.none,.none,.ref 326,.int 589 0,.int 256 0,.str (so "/claim/cut.py") 590] })::
(nat_lit 328,kF "_law_same" (top 59) "law_reason_k41_texts" 475 327)::
(nat_lit 332,{ cls:=.type "code",data:=Data.fields #[.str (so "law") 592,.str (so "law") 593,.str (so "/claim/cut.py") 594,.int 262 0,.int 1 0,.int 0 0,.int 0 0,.int 3 0,.ref 329,.bool true,.int 181 0,.ref 330,.none,.none,.none,.ref 331,.int 595 0,.int 262 0,.str (so "/claim/cut.py") 596] })::
(nat_lit 333,kF "law" (top 60) "law_reason_k41_texts" 475 332)::[]
noncomputable def kas : List Addr:=[2,3,23,24,25,36,37,40,46,47,53,54,60,61,67,68,74,75,79,80,86,87,91,92,98,99,103,104,108,109,115,116,122,123,129,130,134,135,141,142,148,149,155,156,160,161,165,166,172,173,179,180,184,185,191,192,198,199,205,206,210,211,215,216,220,221,227,228,234,235,241,242,246,247,253,254,260,261,265,266,279,280,286,287,291,292,298,299,303,304,308,309,315,316,322,323,327,328,332,333]
end K41
noncomputable def PySem.W.Fast.tw15882513705694354765 : Params->Frag:=K41.KF
theorem PySem.W.Fast.te15882513705694354765 : K41.KF = PySem.W.Fast.tw15882513705694354765:=rfl
noncomputable def K41.H : Hook:=kHook K41.KF K41.kas (fun _=>by kernel_rfl)
noncomputable def L2.qk41 : Program:=view PySem.Challenge.pw_reason_k41_texts [60]
noncomputable def L2.lk41 : List Str:=(PySem.Challenge.pw_reason_k41_texts.main.scope.names.map (·.1)).filter (· != "law")
noncomputable def L2.xk41 (s : Shared) : Bool:=xlAt L2.qk41 [] s && recOk (RowW.records (OpenRow.toRowW (OpenLaw.row PySem.Challenge.rw_reason_k41_texts))) s
noncomputable def L2.lhk41 (w : World) (os : OsState):=(topFrom treeTable PySem.Challenge.pw_reason_k41_texts w 6000 ⟨boot_heap w.params,Array.mk [],boot_drawn,boot_toks,os⟩).map (fun s=>(openSeen L2.qk41 L2.lk41 (importedModules PySem.Challenge.pw_reason_k41_texts.main.body) L2.xk41 true s,K41.kas.map s.heap.get?))
noncomputable def L2.rhk41 (w : World):=some (openGood L2.qk41 L2.lk41,(K41.KF w.params).map fun p=>some p.2)
lay_quick L2.lhk41 L2.rhk41
set_option maxHeartbeats 0
theorem L2.lrk41 : ∀ w os,L2.lhk41 w os = L2.rhk41 w:=fun w os=>(congrFun (congrFun PySem.W.Fast.te2820267455649539482 w) os).trans ((by kernel_rfl : PySem.W.Fast.tw2820267455649539482 w os = PySem.W.Fast.tw1914921176230416142 w).trans (congrFun PySem.W.Fast.te1914921176230416142 w).symm)
theorem K41.left : LeftO PySem.Challenge.pw_reason_k41_texts L2.qk41 L2.lk41 L2.xk41 (Hook.obs K41.H) (Hook.val K41.H) 6000:=
 L2.leftO_once (by kernel_rfl) (by decide +kernel) (fun _=>by kernel_rfl) L2.lrk41
open PySem PySem.W PyProof.Rows L2
noncomputable def K41.dr : DefRec:=match defOf L2.qk41 (Str.ofString "law") with | some x=>x.1 | none=>⟨"law",xl (K41.top 60),yB (K41.top 60),zk (K41.top 60),⟨0,0,0,0⟩⟩
theorem PySem.Challenge.cw_reason_k41_texts_holds : PySem.Challenge.rw_reason_k41_texts.Holds := by
 w_on; o_law
 refine holds_open (q:=L2.qk41) (loose:=L2.lk41) (Xt:=L2.xk41) (XP:=XL L2.qk41 []) (YP:=InK K41.KF) (d:=K41.dr) (kwd:=[]) (N:=6000) K41.left (InK.of fun _=>by kernel_rfl) InK.keeps (fun s e=>xl_of s (Bool.and_eq_true_iff.mp e).1) XL.keeps (by kernel_rfl) (by kernel_rfl) (by kernel_rfl) (fun s e=>recFacts_of (Bool.and_eq_true_iff.mp e).2) (by rfl) (by assumption) (by k_qdec) ⟨rfl,rfl,rfl,rfl,rfl,by decide +kernel⟩ ?hw ?hc
 (case hw=>w_witness2)
 k_fill
 refine K41.walk (l:=PySem.Challenge.rw_reason_k41_texts) rfl (by kernel_rfl) (by kernel_rfl) (fun w h Y=>Y) ?F
 case F=>
  intro w mg h KX G
  refine' K41.Txt.mk (zv KX G ?a1 ?l1 ?c1 ?k1) (zv KX G ?a2 ?l2 ?c2 ?k2) (zv KX G ?a3 ?l3 ?c3 ?k3) (zv KX G ?a4 ?l4 ?c4 ?k4) (zv KX G ?a5 ?l5 ?c5 ?k5) (zv KX G ?a6 ?l6 ?c6 ?k6) (zv KX G ?a7 ?l7 ?c7 ?k7) (zv KX G ?a8 ?l8 ?c8 ?k8) (zv KX G ?a9 ?l9 ?c9 ?k9) (zv KX G ?a10 ?l10 ?c10 ?k10) (zv KX G ?a11 ?l11 ?c11 ?k11) (zv KX G ?a12 ?l12 ?c12 ?k12) (zv KX G ?a13 ?l13 ?c13 ?k13) (zv KX G ?a14 ?l14 ?c14 ?k14) (zv KX G ?a15 ?l15 ?c15 ?k15) (zv KX G ?a16 ?l16 ?c16 ?k16) (zv KX G ?a17 ?l17 ?c17 ?k17) (zv KX G ?a18 ?l18 ?c18 ?k18) (zv KX G ?a19 ?l19 ?c19 ?k19) (zv KX G ?a20 ?l20 ?c20 ?k20) (zv KX G ?a21 ?l21 ?c21 ?k21) (zv KX G ?a22 ?l22 ?c22 ?k22) (zv KX G ?a23 ?l23 ?c23 ?k23) (zv KX G ?a24 ?l24 ?c24 ?k24) (zv KX G ?a25 ?l25 ?c25 ?k25) (zv KX G ?a26 ?l26 ?c26 ?k26) (zv KX G ?a27 ?l27 ?c27 ?k27) (zv KX G ?a28 ?l28 ?c28 ?k28) (zv KX G ?a29 ?l29 ?c29 ?k29) (zv KX G ?a30 ?l30 ?c30 ?k30) (zv KX G ?a31 ?l31 ?c31 ?k31) (zv KX G ?a32 ?l32 ?c32 ?k32) (zv KX G ?a33 ?l33 ?c33 ?k33) (zv KX G ?a34 ?l34 ?c34 ?k34) (zv KX G ?a35 ?l35 ?c35 ?k35) (zv KX G ?a36 ?l36 ?c36 ?k36) (zv KX G ?a37 ?l37 ?c37 ?k37) (zv KX G ?a38 ?l38 ?c38 ?k38) (zv KX G ?a39 ?l39 ?c39 ?k39) (zv KX G ?a40 ?l40 ?c40 ?k40) (zv KX G ?a41 ?l41 ?c41 ?k41) (zv KX G ?a42 ?l42 ?c42 ?k42) (zv KX G ?a43 ?l43 ?c43 ?k43) (zv KX G ?a44 ?l44 ?c44 ?k44) (zv KX G ?a45 ?l45 ?c45 ?k45) (zv KX G ?a46 ?l46 ?c46 ?k46) (PySem.W.mg_none_of KX G ?z47) (PySem.W.mg_none_of KX G ?z48) (PySem.W.mg_none_of KX G ?z49) (PySem.W.mg_none_of KX G ?z50) (PySem.W.mg_none_of KX G ?z51) (PySem.W.mg_none_of KX G ?z52) (PySem.W.mg_none_of KX G ?z53) (PySem.W.mg_none_of KX G ?z54) (PySem.W.mg_none_of KX G ?z55) (PySem.W.mg_none_of KX G ?z56) (PySem.W.mg_none_of KX G ?z57) (PySem.W.mg_none_of KX G ?z58) WJ UB UC Xo (y7 KX G ?g59) (y7 KX G ?g60) (y7 KX G ?g61) (y7 KX G ?g62) (y7 KX G ?g63) (y7 KX G ?g64) (ZG (ws:=["not","if","under","unlike","sum","least","count"]) KX G ?g65 ?h65 ?i65 ?j65)  (W6 ?y901 (Jd ?y902 ?y903 ?y904 ?y905 ?y906 ?y907) ?y908)
  (case a1=>k_is); (case l1=>k_is); (case c1=>k_is); (case k1=>k_is)
  (case a2=>k_is); (case l2=>k_is); (case c2=>k_is); (case k2=>k_is)
  (case a3=>k_is); (case l3=>k_is); (case c3=>k_is); (case k3=>k_is)
  (case a4=>k_is); (case l4=>k_is); (case c4=>k_is); (case k4=>k_is)
  (case a5=>k_is); (case l5=>k_is); (case c5=>k_is); (case k5=>k_is)
  (case a6=>k_is); (case l6=>k_is); (case c6=>k_is); (case k6=>k_is)
  (case a7=>k_is); (case l7=>k_is); (case c7=>k_is); (case k7=>k_is)
  (case a8=>k_is); (case l8=>k_is); (case c8=>k_is); (case k8=>k_is)
  (case a9=>k_is); (case l9=>k_is); (case c9=>k_is); (case k9=>k_is)
  (case a10=>k_is); (case l10=>k_is); (case c10=>k_is); (case k10=>k_is)
  (case a11=>k_is); (case l11=>k_is); (case c11=>k_is); (case k11=>k_is)
  (case a12=>k_is); (case l12=>k_is); (case c12=>k_is); (case k12=>k_is)
  (case a13=>k_is); (case l13=>k_is); (case c13=>k_is); (case k13=>k_is)
  (case a14=>k_is); (case l14=>k_is); (case c14=>k_is); (case k14=>k_is)
  (case a15=>k_is); (case l15=>k_is); (case c15=>k_is); (case k15=>k_is)
  (case a16=>k_is); (case l16=>k_is); (case c16=>k_is); (case k16=>k_is)
  (case a17=>k_is); (case l17=>k_is); (case c17=>k_is); (case k17=>k_is)
  (case a18=>k_is); (case l18=>k_is); (case c18=>k_is); (case k18=>k_is)
  (case a19=>k_is); (case l19=>k_is); (case c19=>k_is); (case k19=>k_is)
  (case a20=>k_is); (case l20=>k_is); (case c20=>k_is); (case k20=>k_is)
  (case a21=>k_is); (case l21=>k_is); (case c21=>k_is); (case k21=>k_is)
  (case a22=>k_is); (case l22=>k_is); (case c22=>k_is); (case k22=>k_is)
  (case a23=>k_is); (case l23=>k_is); (case c23=>k_is); (case k23=>k_is)
  (case a24=>k_is); (case l24=>k_is); (case c24=>k_is); (case k24=>k_is)
  (case a25=>k_is); (case l25=>k_is); (case c25=>k_is); (case k25=>k_is)
  (case a26=>k_is); (case l26=>k_is); (case c26=>k_is); (case k26=>k_is)
  (case a27=>k_is); (case l27=>k_is); (case c27=>k_is); (case k27=>k_is)
  (case a28=>k_is); (case l28=>k_is); (case c28=>k_is); (case k28=>k_is)
  (case a29=>k_is); (case l29=>k_is); (case c29=>k_is); (case k29=>k_is)
  (case a30=>k_is); (case l30=>k_is); (case c30=>k_is); (case k30=>k_is)
  (case a31=>k_is); (case l31=>k_is); (case c31=>k_is); (case k31=>k_is)
  (case a32=>k_is); (case l32=>k_is); (case c32=>k_is); (case k32=>k_is)
  (case a33=>k_is); (case l33=>k_is); (case c33=>k_is); (case k33=>k_is)
  (case a34=>k_is); (case l34=>k_is); (case c34=>k_is); (case k34=>k_is)
  (case a35=>k_is); (case l35=>k_is); (case c35=>k_is); (case k35=>k_is)
  (case a36=>k_is); (case l36=>k_is); (case c36=>k_is); (case k36=>k_is)
  (case a37=>k_is); (case l37=>k_is); (case c37=>k_is); (case k37=>k_is)
  (case a38=>k_is); (case l38=>k_is); (case c38=>k_is); (case k38=>k_is)
  (case a39=>k_is); (case l39=>k_is); (case c39=>k_is); (case k39=>k_is)
  (case a40=>k_is); (case l40=>k_is); (case c40=>k_is); (case k40=>k_is)
  (case a41=>k_is); (case l41=>k_is); (case c41=>k_is); (case k41=>k_is)
  (case a42=>k_is); (case l42=>k_is); (case c42=>k_is); (case k42=>k_is)
  (case a43=>k_is); (case l43=>k_is); (case c43=>k_is); (case k43=>k_is)
  (case a44=>k_is); (case l44=>k_is); (case c44=>k_is); (case k44=>k_is)
  (case a45=>k_is); (case l45=>k_is); (case c45=>k_is); (case k45=>k_is)
  (case a46=>k_is); (case l46=>k_is); (case c46=>k_is); (case k46=>k_is)
  (case z47=>k_is)
  (case z48=>k_is)
  (case z49=>k_is)
  (case z50=>k_is)
  (case z51=>k_is)
  (case z52=>k_is)
  (case z53=>k_is)
  (case z54=>k_is)
  (case z55=>k_is)
  (case z56=>k_is)
  (case z57=>k_is)
  (case z58=>k_is)
  (case g59=>k_is)
  (case g60=>k_is)
  (case g61=>k_is)
  (case g62=>k_is)
  (case g63=>k_is)
  (case g64=>k_is)
  (case g65=>k_is); (case h65=>k_is); (case i65=>decide); (case j65=>exact .cons ⟨_,rfl⟩ (.cons ⟨_,rfl⟩ (.cons ⟨_,rfl⟩ (.cons ⟨_,rfl⟩ (.cons ⟨_,rfl⟩ (.cons ⟨_,rfl⟩ (.cons ⟨_,rfl⟩ (.nil))))))))
  (case y901=>k_is)
  (case y902=>k_is)
  (case y903=>k_is)
  (case y904=>intro od; rfl)
  (case y905=>k_is)
  (case y906=>k_is)
  (case y907=>rfl)
  (case y908=>first | with_unfolding_all rfl | decide +kernel)
